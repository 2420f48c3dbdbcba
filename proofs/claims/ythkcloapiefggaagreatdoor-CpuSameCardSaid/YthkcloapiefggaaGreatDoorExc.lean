/- Executing an instruction: the operations one by one. Executing an instruction: the others. -/
import Derived.Test.YthkcloapiefggaaGreatDoorBrn
namespace Go.Proofs.YthkcloapiefggaaGreatDoor
set_option linter.unusedVariables false
set_option linter.unusedSimpArgs false
set_option maxRecDepth 100000
set_option maxHeartbeats 1000000
open Go.ChangeShapes Go.WideShapes Go.RowKit

theorem exe_0 (E : Env) (ov : Value) (S : Ms) (k : Nat) (s im ax bk sz : Int) (w : World) (h : Mc E ov S w) (hd : k < 8) (hi : InD ⟨0, k, s, im, ax, bk, sz⟩) (hl : EvIn S.out) :
  Calls Tryz.prog 63 #[.pointer (some ⟨E.b, 0, none⟩), .agg #[.int .i64 0, .int .i64 (k : Int), .int .i64 s, .int .u16 im, .int .u16 ax, .int .i64 bk, .int .i64 sz]] w fun e w' => PostO E ov S w (exP E.I E.T ⟨0, k, s, im, ax, bk, sz⟩ S) e w' := by
 obtain ⟨n0, n1, n2, n3, n4, n5, n6⟩ := ins_new w 0 k s im ax bk sz
 have H := Lib.hid (h.alloc (.cells #[.int .i64 0, .int .i64 (k : Int), .int .i64 s, .int .u16 im, .int .u16 ax, .int .i64 bk, .int .i64 sz] 58))
 have HG := Lib.hid (gb_alloc (gb_refl w (some E.b)) (.cells #[.int .i64 0, .int .i64 (k : Int), .int .i64 s, .int .u16 im, .int .u16 ax, .int .i64 bk, .int .i64 sz] 58))
 have hm : U16 im := ⟨hi.ok.m0, hi.ok.m1⟩
 have hx : U16 ax := ⟨hi.ok.a0, hi.ok.a1⟩
 have HR := Lib.hid (show exP E.I E.T ⟨0, k, s, im, ax, bk, sz⟩ S = .ok S from rfl)
 obtain ⟨r, hr⟩ : ∃ r, exP E.I E.T ⟨0, k, s, im, ax, bk, sz⟩ S = r := ⟨_, rfl⟩
 rw [hr] at HR ⊢
 clear h hr hm hx hi hl
 go_enter Tryz.func63, Tryz.ntmps63
 go_wp2_with fail
 go_end0
 exact PostO.okk HR.out rfl H.out (Fro.gb ov HG.out)

theorem exe_80 (E : Env) (ov : Value) (S : Ms) (k : Nat) (s im ax bk sz : Int) (w : World) (h : Mc E ov S w) (hd : k < 8) (hi : InD ⟨80, k, s, im, ax, bk, sz⟩) (hl : EvIn S.out) :
  Calls Tryz.prog 63 #[.pointer (some ⟨E.b, 0, none⟩), .agg #[.int .i64 80, .int .i64 (k : Int), .int .i64 s, .int .u16 im, .int .u16 ax, .int .i64 bk, .int .i64 sz]] w fun e w' => PostO E ov S w (exP E.I E.T ⟨80, k, s, im, ax, bk, sz⟩ S) e w' := by
 obtain ⟨n0, n1, n2, n3, n4, n5, n6⟩ := ins_new w 80 k s im ax bk sz
 have H := Lib.hid (h.alloc (.cells #[.int .i64 80, .int .i64 (k : Int), .int .i64 s, .int .u16 im, .int .u16 ax, .int .i64 bk, .int .i64 sz] 58))
 have HG := Lib.hid (gb_alloc (gb_refl w (some E.b)) (.cells #[.int .i64 80, .int .i64 (k : Int), .int .i64 s, .int .u16 im, .int .u16 ax, .int .i64 bk, .int .i64 sz] 58))
 have hm : U16 im := ⟨hi.ok.m0, hi.ok.m1⟩
 have hx : U16 ax := ⟨hi.ok.a0, hi.ok.a1⟩
 have HC := Lib.hid ((acs_80 E ov S k s im ax bk sz _ H.out hd hi).mono fun e w' hp => (show PostO E ov S (w.alloc (.cells #[.int .i64 80, .int .i64 (k : Int), .int .i64 s, .int .u16 im, .int .u16 ax, .int .i64 bk, .int .i64 sz] 58)) (exP E.I E.T ⟨80, k, s, im, ax, bk, sz⟩ S) e w' from PostO.of hp))
 obtain ⟨r, hr⟩ : ∃ r, exP E.I E.T ⟨80, k, s, im, ax, bk, sz⟩ S = r := ⟨_, rfl⟩
 rw [hr] at HC ⊢
 clear h hr hm hx hi hl
 go_enter Tryz.func63, Tryz.ntmps63
 go_wp2_with fail
 refine (HC.out).mono ?_
 rintro e w1 hp
 cases r with
 | ok S' =>
  obtain ⟨rfl, hp⟩ := hp
  have HP := Lib.hid hp
  clear hp
  go_wp2_with fail
  go_end0
  exact PostO.pre (R := .ok S') ⟨rfl, HP.out⟩ HG.out
 | tr t x =>
  obtain ⟨rfl, hp⟩ := hp
  have HP := Lib.hid hp
  clear hp
  go_wp2_with fail
  exact ⟨rfl, PostO.pre (R := .tr t x) ⟨rfl, HP.out⟩ HG.out⟩

theorem exe_88 (E : Env) (ov : Value) (S : Ms) (k : Nat) (s im ax bk sz : Int) (w : World) (h : Mc E ov S w) (hd : k < 8) (hi : InD ⟨88, k, s, im, ax, bk, sz⟩) (hl : EvIn S.out) :
  Calls Tryz.prog 63 #[.pointer (some ⟨E.b, 0, none⟩), .agg #[.int .i64 88, .int .i64 (k : Int), .int .i64 s, .int .u16 im, .int .u16 ax, .int .i64 bk, .int .i64 sz]] w fun e w' => PostO E ov S w (exP E.I E.T ⟨88, k, s, im, ax, bk, sz⟩ S) e w' := by
 obtain ⟨n0, n1, n2, n3, n4, n5, n6⟩ := ins_new w 88 k s im ax bk sz
 have H := Lib.hid (h.alloc (.cells #[.int .i64 88, .int .i64 (k : Int), .int .i64 s, .int .u16 im, .int .u16 ax, .int .i64 bk, .int .i64 sz] 58))
 have HG := Lib.hid (gb_alloc (gb_refl w (some E.b)) (.cells #[.int .i64 88, .int .i64 (k : Int), .int .i64 s, .int .u16 im, .int .u16 ax, .int .i64 bk, .int .i64 sz] 58))
 have hm : U16 im := ⟨hi.ok.m0, hi.ok.m1⟩
 have hx : U16 ax := ⟨hi.ok.a0, hi.ok.a1⟩
 have HC := Lib.hid ((acs_88 E ov S k s im ax bk sz _ H.out hd hi).mono fun e w' hp => (show PostO E ov S (w.alloc (.cells #[.int .i64 88, .int .i64 (k : Int), .int .i64 s, .int .u16 im, .int .u16 ax, .int .i64 bk, .int .i64 sz] 58)) (exP E.I E.T ⟨88, k, s, im, ax, bk, sz⟩ S) e w' from PostO.of hp))
 obtain ⟨r, hr⟩ : ∃ r, exP E.I E.T ⟨88, k, s, im, ax, bk, sz⟩ S = r := ⟨_, rfl⟩
 rw [hr] at HC ⊢
 clear h hr hm hx hi hl
 go_enter Tryz.func63, Tryz.ntmps63
 go_wp2_with fail
 refine (HC.out).mono ?_
 rintro e w1 hp
 cases r with
 | ok S' =>
  obtain ⟨rfl, hp⟩ := hp
  have HP := Lib.hid hp
  clear hp
  go_wp2_with fail
  go_end0
  exact PostO.pre (R := .ok S') ⟨rfl, HP.out⟩ HG.out
 | tr t x =>
  obtain ⟨rfl, hp⟩ := hp
  have HP := Lib.hid hp
  clear hp
  go_wp2_with fail
  exact ⟨rfl, PostO.pre (R := .tr t x) ⟨rfl, HP.out⟩ HG.out⟩

theorem exe_84 (E : Env) (ov : Value) (S : Ms) (k : Nat) (s im ax bk sz : Int) (w : World) (h : Mc E ov S w) (hd : k < 8) (hi : InD ⟨84, k, s, im, ax, bk, sz⟩) (hl : EvIn S.out) :
  Calls Tryz.prog 63 #[.pointer (some ⟨E.b, 0, none⟩), .agg #[.int .i64 84, .int .i64 (k : Int), .int .i64 s, .int .u16 im, .int .u16 ax, .int .i64 bk, .int .i64 sz]] w fun e w' => PostO E ov S w (exP E.I E.T ⟨84, k, s, im, ax, bk, sz⟩ S) e w' := by
 obtain ⟨n0, n1, n2, n3, n4, n5, n6⟩ := ins_new w 84 k s im ax bk sz
 have H := Lib.hid (h.alloc (.cells #[.int .i64 84, .int .i64 (k : Int), .int .i64 s, .int .u16 im, .int .u16 ax, .int .i64 bk, .int .i64 sz] 58))
 have HG := Lib.hid (gb_alloc (gb_refl w (some E.b)) (.cells #[.int .i64 84, .int .i64 (k : Int), .int .i64 s, .int .u16 im, .int .u16 ax, .int .i64 bk, .int .i64 sz] 58))
 have hm : U16 im := ⟨hi.ok.m0, hi.ok.m1⟩
 have hx : U16 ax := ⟨hi.ok.a0, hi.ok.a1⟩
 have HC := Lib.hid ((acs_84 E ov S k s im ax bk sz _ H.out hd hi).mono fun e w' hp => (show PostO E ov S (w.alloc (.cells #[.int .i64 84, .int .i64 (k : Int), .int .i64 s, .int .u16 im, .int .u16 ax, .int .i64 bk, .int .i64 sz] 58)) (exP E.I E.T ⟨84, k, s, im, ax, bk, sz⟩ S) e w' from PostO.of hp))
 obtain ⟨r, hr⟩ : ∃ r, exP E.I E.T ⟨84, k, s, im, ax, bk, sz⟩ S = r := ⟨_, rfl⟩
 rw [hr] at HC ⊢
 clear h hr hm hx hi hl
 go_enter Tryz.func63, Tryz.ntmps63
 go_wp2_with fail
 refine (HC.out).mono ?_
 rintro e w1 hp
 cases r with
 | ok S' =>
  obtain ⟨rfl, hp⟩ := hp
  have HP := Lib.hid hp
  clear hp
  go_wp2_with fail
  go_end0
  exact PostO.pre (R := .ok S') ⟨rfl, HP.out⟩ HG.out
 | tr t x =>
  obtain ⟨rfl, hp⟩ := hp
  have HP := Lib.hid hp
  clear hp
  go_wp2_with fail
  exact ⟨rfl, PostO.pre (R := .tr t x) ⟨rfl, HP.out⟩ HG.out⟩

theorem exe_81 (E : Env) (ov : Value) (S : Ms) (k : Nat) (s im ax bk sz : Int) (w : World) (h : Mc E ov S w) (hd : k < 8) (hi : InD ⟨81, k, s, im, ax, bk, sz⟩) (hl : EvIn S.out) :
  Calls Tryz.prog 63 #[.pointer (some ⟨E.b, 0, none⟩), .agg #[.int .i64 81, .int .i64 (k : Int), .int .i64 s, .int .u16 im, .int .u16 ax, .int .i64 bk, .int .i64 sz]] w fun e w' => PostO E ov S w (exP E.I E.T ⟨81, k, s, im, ax, bk, sz⟩ S) e w' := by
 obtain ⟨n0, n1, n2, n3, n4, n5, n6⟩ := ins_new w 81 k s im ax bk sz
 have H := Lib.hid (h.alloc (.cells #[.int .i64 81, .int .i64 (k : Int), .int .i64 s, .int .u16 im, .int .u16 ax, .int .i64 bk, .int .i64 sz] 58))
 have HG := Lib.hid (gb_alloc (gb_refl w (some E.b)) (.cells #[.int .i64 81, .int .i64 (k : Int), .int .i64 s, .int .u16 im, .int .u16 ax, .int .i64 bk, .int .i64 sz] 58))
 have hm : U16 im := ⟨hi.ok.m0, hi.ok.m1⟩
 have hx : U16 ax := ⟨hi.ok.a0, hi.ok.a1⟩
 have HC := Lib.hid ((acs_81 E ov S k s im ax bk sz _ H.out hd hi).mono fun e w' hp => (show PostO E ov S (w.alloc (.cells #[.int .i64 81, .int .i64 (k : Int), .int .i64 s, .int .u16 im, .int .u16 ax, .int .i64 bk, .int .i64 sz] 58)) (exP E.I E.T ⟨81, k, s, im, ax, bk, sz⟩ S) e w' from PostO.of hp))
 obtain ⟨r, hr⟩ : ∃ r, exP E.I E.T ⟨81, k, s, im, ax, bk, sz⟩ S = r := ⟨_, rfl⟩
 rw [hr] at HC ⊢
 clear h hr hm hx hi hl
 go_enter Tryz.func63, Tryz.ntmps63
 go_wp2_with fail
 refine (HC.out).mono ?_
 rintro e w1 hp
 cases r with
 | ok S' =>
  obtain ⟨rfl, hp⟩ := hp
  have HP := Lib.hid hp
  clear hp
  go_wp2_with fail
  go_end0
  exact PostO.pre (R := .ok S') ⟨rfl, HP.out⟩ HG.out
 | tr t x =>
  obtain ⟨rfl, hp⟩ := hp
  have HP := Lib.hid hp
  clear hp
  go_wp2_with fail
  exact ⟨rfl, PostO.pre (R := .tr t x) ⟨rfl, HP.out⟩ HG.out⟩

theorem exe_89 (E : Env) (ov : Value) (S : Ms) (k : Nat) (s im ax bk sz : Int) (w : World) (h : Mc E ov S w) (hd : k < 8) (hi : InD ⟨89, k, s, im, ax, bk, sz⟩) (hl : EvIn S.out) :
  Calls Tryz.prog 63 #[.pointer (some ⟨E.b, 0, none⟩), .agg #[.int .i64 89, .int .i64 (k : Int), .int .i64 s, .int .u16 im, .int .u16 ax, .int .i64 bk, .int .i64 sz]] w fun e w' => PostO E ov S w (exP E.I E.T ⟨89, k, s, im, ax, bk, sz⟩ S) e w' := by
 obtain ⟨n0, n1, n2, n3, n4, n5, n6⟩ := ins_new w 89 k s im ax bk sz
 have H := Lib.hid (h.alloc (.cells #[.int .i64 89, .int .i64 (k : Int), .int .i64 s, .int .u16 im, .int .u16 ax, .int .i64 bk, .int .i64 sz] 58))
 have HG := Lib.hid (gb_alloc (gb_refl w (some E.b)) (.cells #[.int .i64 89, .int .i64 (k : Int), .int .i64 s, .int .u16 im, .int .u16 ax, .int .i64 bk, .int .i64 sz] 58))
 have hm : U16 im := ⟨hi.ok.m0, hi.ok.m1⟩
 have hx : U16 ax := ⟨hi.ok.a0, hi.ok.a1⟩
 have HC := Lib.hid ((acs_89 E ov S k s im ax bk sz _ H.out hd hi).mono fun e w' hp => (show PostO E ov S (w.alloc (.cells #[.int .i64 89, .int .i64 (k : Int), .int .i64 s, .int .u16 im, .int .u16 ax, .int .i64 bk, .int .i64 sz] 58)) (exP E.I E.T ⟨89, k, s, im, ax, bk, sz⟩ S) e w' from PostO.of hp))
 obtain ⟨r, hr⟩ : ∃ r, exP E.I E.T ⟨89, k, s, im, ax, bk, sz⟩ S = r := ⟨_, rfl⟩
 rw [hr] at HC ⊢
 clear h hr hm hx hi hl
 go_enter Tryz.func63, Tryz.ntmps63
 go_wp2_with fail
 refine (HC.out).mono ?_
 rintro e w1 hp
 cases r with
 | ok S' =>
  obtain ⟨rfl, hp⟩ := hp
  have HP := Lib.hid hp
  clear hp
  go_wp2_with fail
  go_end0
  exact PostO.pre (R := .ok S') ⟨rfl, HP.out⟩ HG.out
 | tr t x =>
  obtain ⟨rfl, hp⟩ := hp
  have HP := Lib.hid hp
  clear hp
  go_wp2_with fail
  exact ⟨rfl, PostO.pre (R := .tr t x) ⟨rfl, HP.out⟩ HG.out⟩

theorem exe_85 (E : Env) (ov : Value) (S : Ms) (k : Nat) (s im ax bk sz : Int) (w : World) (h : Mc E ov S w) (hd : k < 8) (hi : InD ⟨85, k, s, im, ax, bk, sz⟩) (hl : EvIn S.out) :
  Calls Tryz.prog 63 #[.pointer (some ⟨E.b, 0, none⟩), .agg #[.int .i64 85, .int .i64 (k : Int), .int .i64 s, .int .u16 im, .int .u16 ax, .int .i64 bk, .int .i64 sz]] w fun e w' => PostO E ov S w (exP E.I E.T ⟨85, k, s, im, ax, bk, sz⟩ S) e w' := by
 obtain ⟨n0, n1, n2, n3, n4, n5, n6⟩ := ins_new w 85 k s im ax bk sz
 have H := Lib.hid (h.alloc (.cells #[.int .i64 85, .int .i64 (k : Int), .int .i64 s, .int .u16 im, .int .u16 ax, .int .i64 bk, .int .i64 sz] 58))
 have HG := Lib.hid (gb_alloc (gb_refl w (some E.b)) (.cells #[.int .i64 85, .int .i64 (k : Int), .int .i64 s, .int .u16 im, .int .u16 ax, .int .i64 bk, .int .i64 sz] 58))
 have hm : U16 im := ⟨hi.ok.m0, hi.ok.m1⟩
 have hx : U16 ax := ⟨hi.ok.a0, hi.ok.a1⟩
 have HC := Lib.hid ((acs_85 E ov S k s im ax bk sz _ H.out hd hi).mono fun e w' hp => (show PostO E ov S (w.alloc (.cells #[.int .i64 85, .int .i64 (k : Int), .int .i64 s, .int .u16 im, .int .u16 ax, .int .i64 bk, .int .i64 sz] 58)) (exP E.I E.T ⟨85, k, s, im, ax, bk, sz⟩ S) e w' from PostO.of hp))
 obtain ⟨r, hr⟩ : ∃ r, exP E.I E.T ⟨85, k, s, im, ax, bk, sz⟩ S = r := ⟨_, rfl⟩
 rw [hr] at HC ⊢
 clear h hr hm hx hi hl
 go_enter Tryz.func63, Tryz.ntmps63
 go_wp2_with fail
 refine (HC.out).mono ?_
 rintro e w1 hp
 cases r with
 | ok S' =>
  obtain ⟨rfl, hp⟩ := hp
  have HP := Lib.hid hp
  clear hp
  go_wp2_with fail
  go_end0
  exact PostO.pre (R := .ok S') ⟨rfl, HP.out⟩ HG.out
 | tr t x =>
  obtain ⟨rfl, hp⟩ := hp
  have HP := Lib.hid hp
  clear hp
  go_wp2_with fail
  exact ⟨rfl, PostO.pre (R := .tr t x) ⟨rfl, HP.out⟩ HG.out⟩

theorem exe_82 (E : Env) (ov : Value) (S : Ms) (k : Nat) (s im ax bk sz : Int) (w : World) (h : Mc E ov S w) (hd : k < 8) (hi : InD ⟨82, k, s, im, ax, bk, sz⟩) (hl : EvIn S.out) :
  Calls Tryz.prog 63 #[.pointer (some ⟨E.b, 0, none⟩), .agg #[.int .i64 82, .int .i64 (k : Int), .int .i64 s, .int .u16 im, .int .u16 ax, .int .i64 bk, .int .i64 sz]] w fun e w' => PostO E ov S w (exP E.I E.T ⟨82, k, s, im, ax, bk, sz⟩ S) e w' := by
 obtain ⟨n0, n1, n2, n3, n4, n5, n6⟩ := ins_new w 82 k s im ax bk sz
 have H := Lib.hid (h.alloc (.cells #[.int .i64 82, .int .i64 (k : Int), .int .i64 s, .int .u16 im, .int .u16 ax, .int .i64 bk, .int .i64 sz] 58))
 have HG := Lib.hid (gb_alloc (gb_refl w (some E.b)) (.cells #[.int .i64 82, .int .i64 (k : Int), .int .i64 s, .int .u16 im, .int .u16 ax, .int .i64 bk, .int .i64 sz] 58))
 have hm : U16 im := ⟨hi.ok.m0, hi.ok.m1⟩
 have hx : U16 ax := ⟨hi.ok.a0, hi.ok.a1⟩
 have HC := Lib.hid ((acs_82 E ov S k s im ax bk sz _ H.out hd hi).mono fun e w' hp => (show PostO E ov S (w.alloc (.cells #[.int .i64 82, .int .i64 (k : Int), .int .i64 s, .int .u16 im, .int .u16 ax, .int .i64 bk, .int .i64 sz] 58)) (exP E.I E.T ⟨82, k, s, im, ax, bk, sz⟩ S) e w' from PostO.of hp))
 obtain ⟨r, hr⟩ : ∃ r, exP E.I E.T ⟨82, k, s, im, ax, bk, sz⟩ S = r := ⟨_, rfl⟩
 rw [hr] at HC ⊢
 clear h hr hm hx hi hl
 go_enter Tryz.func63, Tryz.ntmps63
 go_wp2_with fail
 refine (HC.out).mono ?_
 rintro e w1 hp
 cases r with
 | ok S' =>
  obtain ⟨rfl, hp⟩ := hp
  have HP := Lib.hid hp
  clear hp
  go_wp2_with fail
  go_end0
  exact PostO.pre (R := .ok S') ⟨rfl, HP.out⟩ HG.out
 | tr t x =>
  obtain ⟨rfl, hp⟩ := hp
  have HP := Lib.hid hp
  clear hp
  go_wp2_with fail
  exact ⟨rfl, PostO.pre (R := .tr t x) ⟨rfl, HP.out⟩ HG.out⟩

theorem exe_90 (E : Env) (ov : Value) (S : Ms) (k : Nat) (s im ax bk sz : Int) (w : World) (h : Mc E ov S w) (hd : k < 8) (hi : InD ⟨90, k, s, im, ax, bk, sz⟩) (hl : EvIn S.out) :
  Calls Tryz.prog 63 #[.pointer (some ⟨E.b, 0, none⟩), .agg #[.int .i64 90, .int .i64 (k : Int), .int .i64 s, .int .u16 im, .int .u16 ax, .int .i64 bk, .int .i64 sz]] w fun e w' => PostO E ov S w (exP E.I E.T ⟨90, k, s, im, ax, bk, sz⟩ S) e w' := by
 obtain ⟨n0, n1, n2, n3, n4, n5, n6⟩ := ins_new w 90 k s im ax bk sz
 have H := Lib.hid (h.alloc (.cells #[.int .i64 90, .int .i64 (k : Int), .int .i64 s, .int .u16 im, .int .u16 ax, .int .i64 bk, .int .i64 sz] 58))
 have HG := Lib.hid (gb_alloc (gb_refl w (some E.b)) (.cells #[.int .i64 90, .int .i64 (k : Int), .int .i64 s, .int .u16 im, .int .u16 ax, .int .i64 bk, .int .i64 sz] 58))
 have hm : U16 im := ⟨hi.ok.m0, hi.ok.m1⟩
 have hx : U16 ax := ⟨hi.ok.a0, hi.ok.a1⟩
 have HC := Lib.hid ((acs_90 E ov S k s im ax bk sz _ H.out hd hi).mono fun e w' hp => (show PostO E ov S (w.alloc (.cells #[.int .i64 90, .int .i64 (k : Int), .int .i64 s, .int .u16 im, .int .u16 ax, .int .i64 bk, .int .i64 sz] 58)) (exP E.I E.T ⟨90, k, s, im, ax, bk, sz⟩ S) e w' from PostO.of hp))
 obtain ⟨r, hr⟩ : ∃ r, exP E.I E.T ⟨90, k, s, im, ax, bk, sz⟩ S = r := ⟨_, rfl⟩
 rw [hr] at HC ⊢
 clear h hr hm hx hi hl
 go_enter Tryz.func63, Tryz.ntmps63
 go_wp2_with fail
 refine (HC.out).mono ?_
 rintro e w1 hp
 cases r with
 | ok S' =>
  obtain ⟨rfl, hp⟩ := hp
  have HP := Lib.hid hp
  clear hp
  go_wp2_with fail
  go_end0
  exact PostO.pre (R := .ok S') ⟨rfl, HP.out⟩ HG.out
 | tr t x =>
  obtain ⟨rfl, hp⟩ := hp
  have HP := Lib.hid hp
  clear hp
  go_wp2_with fail
  exact ⟨rfl, PostO.pre (R := .tr t x) ⟨rfl, HP.out⟩ HG.out⟩

theorem exe_86 (E : Env) (ov : Value) (S : Ms) (k : Nat) (s im ax bk sz : Int) (w : World) (h : Mc E ov S w) (hd : k < 8) (hi : InD ⟨86, k, s, im, ax, bk, sz⟩) (hl : EvIn S.out) :
  Calls Tryz.prog 63 #[.pointer (some ⟨E.b, 0, none⟩), .agg #[.int .i64 86, .int .i64 (k : Int), .int .i64 s, .int .u16 im, .int .u16 ax, .int .i64 bk, .int .i64 sz]] w fun e w' => PostO E ov S w (exP E.I E.T ⟨86, k, s, im, ax, bk, sz⟩ S) e w' := by
 obtain ⟨n0, n1, n2, n3, n4, n5, n6⟩ := ins_new w 86 k s im ax bk sz
 have H := Lib.hid (h.alloc (.cells #[.int .i64 86, .int .i64 (k : Int), .int .i64 s, .int .u16 im, .int .u16 ax, .int .i64 bk, .int .i64 sz] 58))
 have HG := Lib.hid (gb_alloc (gb_refl w (some E.b)) (.cells #[.int .i64 86, .int .i64 (k : Int), .int .i64 s, .int .u16 im, .int .u16 ax, .int .i64 bk, .int .i64 sz] 58))
 have hm : U16 im := ⟨hi.ok.m0, hi.ok.m1⟩
 have hx : U16 ax := ⟨hi.ok.a0, hi.ok.a1⟩
 have HC := Lib.hid ((acs_86 E ov S k s im ax bk sz _ H.out hd hi).mono fun e w' hp => (show PostO E ov S (w.alloc (.cells #[.int .i64 86, .int .i64 (k : Int), .int .i64 s, .int .u16 im, .int .u16 ax, .int .i64 bk, .int .i64 sz] 58)) (exP E.I E.T ⟨86, k, s, im, ax, bk, sz⟩ S) e w' from PostO.of hp))
 obtain ⟨r, hr⟩ : ∃ r, exP E.I E.T ⟨86, k, s, im, ax, bk, sz⟩ S = r := ⟨_, rfl⟩
 rw [hr] at HC ⊢
 clear h hr hm hx hi hl
 go_enter Tryz.func63, Tryz.ntmps63
 go_wp2_with fail
 refine (HC.out).mono ?_
 rintro e w1 hp
 cases r with
 | ok S' =>
  obtain ⟨rfl, hp⟩ := hp
  have HP := Lib.hid hp
  clear hp
  go_wp2_with fail
  go_end0
  exact PostO.pre (R := .ok S') ⟨rfl, HP.out⟩ HG.out
 | tr t x =>
  obtain ⟨rfl, hp⟩ := hp
  have HP := Lib.hid hp
  clear hp
  go_wp2_with fail
  exact ⟨rfl, PostO.pre (R := .tr t x) ⟨rfl, HP.out⟩ HG.out⟩

theorem exe_83 (E : Env) (ov : Value) (S : Ms) (k : Nat) (s im ax bk sz : Int) (w : World) (h : Mc E ov S w) (hd : k < 8) (hi : InD ⟨83, k, s, im, ax, bk, sz⟩) (hl : EvIn S.out) :
  Calls Tryz.prog 63 #[.pointer (some ⟨E.b, 0, none⟩), .agg #[.int .i64 83, .int .i64 (k : Int), .int .i64 s, .int .u16 im, .int .u16 ax, .int .i64 bk, .int .i64 sz]] w fun e w' => PostO E ov S w (exP E.I E.T ⟨83, k, s, im, ax, bk, sz⟩ S) e w' := by
 obtain ⟨n0, n1, n2, n3, n4, n5, n6⟩ := ins_new w 83 k s im ax bk sz
 have H := Lib.hid (h.alloc (.cells #[.int .i64 83, .int .i64 (k : Int), .int .i64 s, .int .u16 im, .int .u16 ax, .int .i64 bk, .int .i64 sz] 58))
 have HG := Lib.hid (gb_alloc (gb_refl w (some E.b)) (.cells #[.int .i64 83, .int .i64 (k : Int), .int .i64 s, .int .u16 im, .int .u16 ax, .int .i64 bk, .int .i64 sz] 58))
 have hm : U16 im := ⟨hi.ok.m0, hi.ok.m1⟩
 have hx : U16 ax := ⟨hi.ok.a0, hi.ok.a1⟩
 have HC := Lib.hid ((acs_83 E ov S k s im ax bk sz _ H.out hd hi).mono fun e w' hp => (show PostO E ov S (w.alloc (.cells #[.int .i64 83, .int .i64 (k : Int), .int .i64 s, .int .u16 im, .int .u16 ax, .int .i64 bk, .int .i64 sz] 58)) (exP E.I E.T ⟨83, k, s, im, ax, bk, sz⟩ S) e w' from PostO.of hp))
 obtain ⟨r, hr⟩ : ∃ r, exP E.I E.T ⟨83, k, s, im, ax, bk, sz⟩ S = r := ⟨_, rfl⟩
 rw [hr] at HC ⊢
 clear h hr hm hx hi hl
 go_enter Tryz.func63, Tryz.ntmps63
 go_wp2_with fail
 refine (HC.out).mono ?_
 rintro e w1 hp
 cases r with
 | ok S' =>
  obtain ⟨rfl, hp⟩ := hp
  have HP := Lib.hid hp
  clear hp
  go_wp2_with fail
  go_end0
  exact PostO.pre (R := .ok S') ⟨rfl, HP.out⟩ HG.out
 | tr t x =>
  obtain ⟨rfl, hp⟩ := hp
  have HP := Lib.hid hp
  clear hp
  go_wp2_with fail
  exact ⟨rfl, PostO.pre (R := .tr t x) ⟨rfl, HP.out⟩ HG.out⟩

theorem exe_91 (E : Env) (ov : Value) (S : Ms) (k : Nat) (s im ax bk sz : Int) (w : World) (h : Mc E ov S w) (hd : k < 8) (hi : InD ⟨91, k, s, im, ax, bk, sz⟩) (hl : EvIn S.out) :
  Calls Tryz.prog 63 #[.pointer (some ⟨E.b, 0, none⟩), .agg #[.int .i64 91, .int .i64 (k : Int), .int .i64 s, .int .u16 im, .int .u16 ax, .int .i64 bk, .int .i64 sz]] w fun e w' => PostO E ov S w (exP E.I E.T ⟨91, k, s, im, ax, bk, sz⟩ S) e w' := by
 obtain ⟨n0, n1, n2, n3, n4, n5, n6⟩ := ins_new w 91 k s im ax bk sz
 have H := Lib.hid (h.alloc (.cells #[.int .i64 91, .int .i64 (k : Int), .int .i64 s, .int .u16 im, .int .u16 ax, .int .i64 bk, .int .i64 sz] 58))
 have HG := Lib.hid (gb_alloc (gb_refl w (some E.b)) (.cells #[.int .i64 91, .int .i64 (k : Int), .int .i64 s, .int .u16 im, .int .u16 ax, .int .i64 bk, .int .i64 sz] 58))
 have hm : U16 im := ⟨hi.ok.m0, hi.ok.m1⟩
 have hx : U16 ax := ⟨hi.ok.a0, hi.ok.a1⟩
 have HC := Lib.hid ((acs_91 E ov S k s im ax bk sz _ H.out hd hi).mono fun e w' hp => (show PostO E ov S (w.alloc (.cells #[.int .i64 91, .int .i64 (k : Int), .int .i64 s, .int .u16 im, .int .u16 ax, .int .i64 bk, .int .i64 sz] 58)) (exP E.I E.T ⟨91, k, s, im, ax, bk, sz⟩ S) e w' from PostO.of hp))
 obtain ⟨r, hr⟩ : ∃ r, exP E.I E.T ⟨91, k, s, im, ax, bk, sz⟩ S = r := ⟨_, rfl⟩
 rw [hr] at HC ⊢
 clear h hr hm hx hi hl
 go_enter Tryz.func63, Tryz.ntmps63
 go_wp2_with fail
 refine (HC.out).mono ?_
 rintro e w1 hp
 cases r with
 | ok S' =>
  obtain ⟨rfl, hp⟩ := hp
  have HP := Lib.hid hp
  clear hp
  go_wp2_with fail
  go_end0
  exact PostO.pre (R := .ok S') ⟨rfl, HP.out⟩ HG.out
 | tr t x =>
  obtain ⟨rfl, hp⟩ := hp
  have HP := Lib.hid hp
  clear hp
  go_wp2_with fail
  exact ⟨rfl, PostO.pre (R := .tr t x) ⟨rfl, HP.out⟩ HG.out⟩

theorem exe_87 (E : Env) (ov : Value) (S : Ms) (k : Nat) (s im ax bk sz : Int) (w : World) (h : Mc E ov S w) (hd : k < 8) (hi : InD ⟨87, k, s, im, ax, bk, sz⟩) (hl : EvIn S.out) :
  Calls Tryz.prog 63 #[.pointer (some ⟨E.b, 0, none⟩), .agg #[.int .i64 87, .int .i64 (k : Int), .int .i64 s, .int .u16 im, .int .u16 ax, .int .i64 bk, .int .i64 sz]] w fun e w' => PostO E ov S w (exP E.I E.T ⟨87, k, s, im, ax, bk, sz⟩ S) e w' := by
 obtain ⟨n0, n1, n2, n3, n4, n5, n6⟩ := ins_new w 87 k s im ax bk sz
 have H := Lib.hid (h.alloc (.cells #[.int .i64 87, .int .i64 (k : Int), .int .i64 s, .int .u16 im, .int .u16 ax, .int .i64 bk, .int .i64 sz] 58))
 have HG := Lib.hid (gb_alloc (gb_refl w (some E.b)) (.cells #[.int .i64 87, .int .i64 (k : Int), .int .i64 s, .int .u16 im, .int .u16 ax, .int .i64 bk, .int .i64 sz] 58))
 have hm : U16 im := ⟨hi.ok.m0, hi.ok.m1⟩
 have hx : U16 ax := ⟨hi.ok.a0, hi.ok.a1⟩
 have HC := Lib.hid ((acs_87 E ov S k s im ax bk sz _ H.out hd hi).mono fun e w' hp => (show PostO E ov S (w.alloc (.cells #[.int .i64 87, .int .i64 (k : Int), .int .i64 s, .int .u16 im, .int .u16 ax, .int .i64 bk, .int .i64 sz] 58)) (exP E.I E.T ⟨87, k, s, im, ax, bk, sz⟩ S) e w' from PostO.of hp))
 obtain ⟨r, hr⟩ : ∃ r, exP E.I E.T ⟨87, k, s, im, ax, bk, sz⟩ S = r := ⟨_, rfl⟩
 rw [hr] at HC ⊢
 clear h hr hm hx hi hl
 go_enter Tryz.func63, Tryz.ntmps63
 go_wp2_with fail
 refine (HC.out).mono ?_
 rintro e w1 hp
 cases r with
 | ok S' =>
  obtain ⟨rfl, hp⟩ := hp
  have HP := Lib.hid hp
  clear hp
  go_wp2_with fail
  go_end0
  exact PostO.pre (R := .ok S') ⟨rfl, HP.out⟩ HG.out
 | tr t x =>
  obtain ⟨rfl, hp⟩ := hp
  have HP := Lib.hid hp
  clear hp
  go_wp2_with fail
  exact ⟨rfl, PostO.pre (R := .tr t x) ⟨rfl, HP.out⟩ HG.out⟩

theorem exe_150 (E : Env) (ov : Value) (S : Ms) (k : Nat) (s im ax bk sz : Int) (w : World) (h : Mc E ov S w) (hd : k < 8) (hi : InD ⟨150, k, s, im, ax, bk, sz⟩) (hl : EvIn S.out) :
  Calls Tryz.prog 63 #[.pointer (some ⟨E.b, 0, none⟩), .agg #[.int .i64 150, .int .i64 (k : Int), .int .i64 s, .int .u16 im, .int .u16 ax, .int .i64 bk, .int .i64 sz]] w fun e w' => PostO E ov S w (exP E.I E.T ⟨150, k, s, im, ax, bk, sz⟩ S) e w' := by
 obtain ⟨n0, n1, n2, n3, n4, n5, n6⟩ := ins_new w 150 k s im ax bk sz
 have H := Lib.hid (h.alloc (.cells #[.int .i64 150, .int .i64 (k : Int), .int .i64 s, .int .u16 im, .int .u16 ax, .int .i64 bk, .int .i64 sz] 58))
 have HG := Lib.hid (gb_alloc (gb_refl w (some E.b)) (.cells #[.int .i64 150, .int .i64 (k : Int), .int .i64 s, .int .u16 im, .int .u16 ax, .int .i64 bk, .int .i64 sz] 58))
 have hm : U16 im := ⟨hi.ok.m0, hi.ok.m1⟩
 have hx : U16 ax := ⟨hi.ok.a0, hi.ok.a1⟩
 have HC := Lib.hid ((acs_150 E ov S k s im ax bk sz _ H.out hd hi).mono fun e w' hp => (show PostO E ov S (w.alloc (.cells #[.int .i64 150, .int .i64 (k : Int), .int .i64 s, .int .u16 im, .int .u16 ax, .int .i64 bk, .int .i64 sz] 58)) (exP E.I E.T ⟨150, k, s, im, ax, bk, sz⟩ S) e w' from PostO.of hp))
 obtain ⟨r, hr⟩ : ∃ r, exP E.I E.T ⟨150, k, s, im, ax, bk, sz⟩ S = r := ⟨_, rfl⟩
 rw [hr] at HC ⊢
 clear h hr hm hx hi hl
 go_enter Tryz.func63, Tryz.ntmps63
 go_wp2_with fail
 refine (HC.out).mono ?_
 rintro e w1 hp
 cases r with
 | ok S' =>
  obtain ⟨rfl, hp⟩ := hp
  have HP := Lib.hid hp
  clear hp
  go_wp2_with fail
  go_end0
  exact PostO.pre (R := .ok S') ⟨rfl, HP.out⟩ HG.out
 | tr t x =>
  obtain ⟨rfl, hp⟩ := hp
  have HP := Lib.hid hp
  clear hp
  go_wp2_with fail
  exact ⟨rfl, PostO.pre (R := .tr t x) ⟨rfl, HP.out⟩ HG.out⟩

theorem exe_146 (E : Env) (ov : Value) (S : Ms) (k : Nat) (s im ax bk sz : Int) (w : World) (h : Mc E ov S w) (hd : k < 8) (hi : InD ⟨146, k, s, im, ax, bk, sz⟩) (hl : EvIn S.out) :
  Calls Tryz.prog 63 #[.pointer (some ⟨E.b, 0, none⟩), .agg #[.int .i64 146, .int .i64 (k : Int), .int .i64 s, .int .u16 im, .int .u16 ax, .int .i64 bk, .int .i64 sz]] w fun e w' => PostO E ov S w (exP E.I E.T ⟨146, k, s, im, ax, bk, sz⟩ S) e w' := by
 obtain ⟨n0, n1, n2, n3, n4, n5, n6⟩ := ins_new w 146 k s im ax bk sz
 have H := Lib.hid (h.alloc (.cells #[.int .i64 146, .int .i64 (k : Int), .int .i64 s, .int .u16 im, .int .u16 ax, .int .i64 bk, .int .i64 sz] 58))
 have HG := Lib.hid (gb_alloc (gb_refl w (some E.b)) (.cells #[.int .i64 146, .int .i64 (k : Int), .int .i64 s, .int .u16 im, .int .u16 ax, .int .i64 bk, .int .i64 sz] 58))
 have hm : U16 im := ⟨hi.ok.m0, hi.ok.m1⟩
 have hx : U16 ax := ⟨hi.ok.a0, hi.ok.a1⟩
 have HC := Lib.hid ((acs_146 E ov S k s im ax bk sz _ H.out hd hi).mono fun e w' hp => (show PostO E ov S (w.alloc (.cells #[.int .i64 146, .int .i64 (k : Int), .int .i64 s, .int .u16 im, .int .u16 ax, .int .i64 bk, .int .i64 sz] 58)) (exP E.I E.T ⟨146, k, s, im, ax, bk, sz⟩ S) e w' from PostO.of hp))
 obtain ⟨r, hr⟩ : ∃ r, exP E.I E.T ⟨146, k, s, im, ax, bk, sz⟩ S = r := ⟨_, rfl⟩
 rw [hr] at HC ⊢
 clear h hr hm hx hi hl
 go_enter Tryz.func63, Tryz.ntmps63
 go_wp2_with fail
 refine (HC.out).mono ?_
 rintro e w1 hp
 cases r with
 | ok S' =>
  obtain ⟨rfl, hp⟩ := hp
  have HP := Lib.hid hp
  clear hp
  go_wp2_with fail
  go_end0
  exact PostO.pre (R := .ok S') ⟨rfl, HP.out⟩ HG.out
 | tr t x =>
  obtain ⟨rfl, hp⟩ := hp
  have HP := Lib.hid hp
  clear hp
  go_wp2_with fail
  exact ⟨rfl, PostO.pre (R := .tr t x) ⟨rfl, HP.out⟩ HG.out⟩

theorem exe_147 (E : Env) (ov : Value) (S : Ms) (k : Nat) (s im ax bk sz : Int) (w : World) (h : Mc E ov S w) (hd : k < 8) (hi : InD ⟨147, k, s, im, ax, bk, sz⟩) (hl : EvIn S.out) :
  Calls Tryz.prog 63 #[.pointer (some ⟨E.b, 0, none⟩), .agg #[.int .i64 147, .int .i64 (k : Int), .int .i64 s, .int .u16 im, .int .u16 ax, .int .i64 bk, .int .i64 sz]] w fun e w' => PostO E ov S w (exP E.I E.T ⟨147, k, s, im, ax, bk, sz⟩ S) e w' := by
 obtain ⟨n0, n1, n2, n3, n4, n5, n6⟩ := ins_new w 147 k s im ax bk sz
 have H := Lib.hid (h.alloc (.cells #[.int .i64 147, .int .i64 (k : Int), .int .i64 s, .int .u16 im, .int .u16 ax, .int .i64 bk, .int .i64 sz] 58))
 have HG := Lib.hid (gb_alloc (gb_refl w (some E.b)) (.cells #[.int .i64 147, .int .i64 (k : Int), .int .i64 s, .int .u16 im, .int .u16 ax, .int .i64 bk, .int .i64 sz] 58))
 have hm : U16 im := ⟨hi.ok.m0, hi.ok.m1⟩
 have hx : U16 ax := ⟨hi.ok.a0, hi.ok.a1⟩
 have HC := Lib.hid ((acs_147 E ov S k s im ax bk sz _ H.out hd hi).mono fun e w' hp => (show PostO E ov S (w.alloc (.cells #[.int .i64 147, .int .i64 (k : Int), .int .i64 s, .int .u16 im, .int .u16 ax, .int .i64 bk, .int .i64 sz] 58)) (exP E.I E.T ⟨147, k, s, im, ax, bk, sz⟩ S) e w' from PostO.of hp))
 obtain ⟨r, hr⟩ : ∃ r, exP E.I E.T ⟨147, k, s, im, ax, bk, sz⟩ S = r := ⟨_, rfl⟩
 rw [hr] at HC ⊢
 clear h hr hm hx hi hl
 go_enter Tryz.func63, Tryz.ntmps63
 go_wp2_with fail
 refine (HC.out).mono ?_
 rintro e w1 hp
 cases r with
 | ok S' =>
  obtain ⟨rfl, hp⟩ := hp
  have HP := Lib.hid hp
  clear hp
  go_wp2_with fail
  go_end0
  exact PostO.pre (R := .ok S') ⟨rfl, HP.out⟩ HG.out
 | tr t x =>
  obtain ⟨rfl, hp⟩ := hp
  have HP := Lib.hid hp
  clear hp
  go_wp2_with fail
  exact ⟨rfl, PostO.pre (R := .tr t x) ⟨rfl, HP.out⟩ HG.out⟩

theorem exe_16 (E : Env) (ov : Value) (S : Ms) (k : Nat) (s im ax bk sz : Int) (w : World) (h : Mc E ov S w) (hd : k < 8) (hi : InD ⟨16, k, s, im, ax, bk, sz⟩) (hl : EvIn S.out) :
  Calls Tryz.prog 63 #[.pointer (some ⟨E.b, 0, none⟩), .agg #[.int .i64 16, .int .i64 (k : Int), .int .i64 s, .int .u16 im, .int .u16 ax, .int .i64 bk, .int .i64 sz]] w fun e w' => PostO E ov S w (exP E.I E.T ⟨16, k, s, im, ax, bk, sz⟩ S) e w' := by
 obtain ⟨n0, n1, n2, n3, n4, n5, n6⟩ := ins_new w 16 k s im ax bk sz
 have H := Lib.hid (h.alloc (.cells #[.int .i64 16, .int .i64 (k : Int), .int .i64 s, .int .u16 im, .int .u16 ax, .int .i64 bk, .int .i64 sz] 58))
 have HG := Lib.hid (gb_alloc (gb_refl w (some E.b)) (.cells #[.int .i64 16, .int .i64 (k : Int), .int .i64 s, .int .u16 im, .int .u16 ax, .int .i64 bk, .int .i64 sz] 58))
 have hm : U16 im := ⟨hi.ok.m0, hi.ok.m1⟩
 have hx : U16 ax := ⟨hi.ok.a0, hi.ok.a1⟩
 have HC := Lib.hid ((use_16 E ov S k s im ax bk sz _ H.out hd hm).mono fun e w' hp => (show PostO E ov S (w.alloc (.cells #[.int .i64 16, .int .i64 (k : Int), .int .i64 s, .int .u16 im, .int .u16 ax, .int .i64 bk, .int .i64 sz] 58)) (exP E.I E.T ⟨16, k, s, im, ax, bk, sz⟩ S) e w' from PostO.of hp))
 obtain ⟨r, hr⟩ : ∃ r, exP E.I E.T ⟨16, k, s, im, ax, bk, sz⟩ S = r := ⟨_, rfl⟩
 rw [hr] at HC ⊢
 clear h hr hm hx hi hl
 go_enter Tryz.func63, Tryz.ntmps63
 go_wp2_with fail
 refine (HC.out).mono ?_
 rintro e w1 hp
 cases r with
 | ok S' =>
  obtain ⟨rfl, hp⟩ := hp
  have HP := Lib.hid hp
  clear hp
  go_wp2_with fail
  go_end0
  exact PostO.pre (R := .ok S') ⟨rfl, HP.out⟩ HG.out
 | tr t x =>
  obtain ⟨rfl, hp⟩ := hp
  have HP := Lib.hid hp
  clear hp
  go_wp2_with fail
  exact ⟨rfl, PostO.pre (R := .tr t x) ⟨rfl, HP.out⟩ HG.out⟩

theorem exe_17 (E : Env) (ov : Value) (S : Ms) (k : Nat) (s im ax bk sz : Int) (w : World) (h : Mc E ov S w) (hd : k < 8) (hi : InD ⟨17, k, s, im, ax, bk, sz⟩) (hl : EvIn S.out) :
  Calls Tryz.prog 63 #[.pointer (some ⟨E.b, 0, none⟩), .agg #[.int .i64 17, .int .i64 (k : Int), .int .i64 s, .int .u16 im, .int .u16 ax, .int .i64 bk, .int .i64 sz]] w fun e w' => PostO E ov S w (exP E.I E.T ⟨17, k, s, im, ax, bk, sz⟩ S) e w' := by
 obtain ⟨n0, n1, n2, n3, n4, n5, n6⟩ := ins_new w 17 k s im ax bk sz
 have H := Lib.hid (h.alloc (.cells #[.int .i64 17, .int .i64 (k : Int), .int .i64 s, .int .u16 im, .int .u16 ax, .int .i64 bk, .int .i64 sz] 58))
 have HG := Lib.hid (gb_alloc (gb_refl w (some E.b)) (.cells #[.int .i64 17, .int .i64 (k : Int), .int .i64 s, .int .u16 im, .int .u16 ax, .int .i64 bk, .int .i64 sz] 58))
 have hm : U16 im := ⟨hi.ok.m0, hi.ok.m1⟩
 have hx : U16 ax := ⟨hi.ok.a0, hi.ok.a1⟩
 have HC := Lib.hid ((use_17 E ov S k s im ax bk sz _ H.out hd hm).mono fun e w' hp => (show PostO E ov S (w.alloc (.cells #[.int .i64 17, .int .i64 (k : Int), .int .i64 s, .int .u16 im, .int .u16 ax, .int .i64 bk, .int .i64 sz] 58)) (exP E.I E.T ⟨17, k, s, im, ax, bk, sz⟩ S) e w' from PostO.of hp))
 obtain ⟨r, hr⟩ : ∃ r, exP E.I E.T ⟨17, k, s, im, ax, bk, sz⟩ S = r := ⟨_, rfl⟩
 rw [hr] at HC ⊢
 clear h hr hm hx hi hl
 go_enter Tryz.func63, Tryz.ntmps63
 go_wp2_with fail
 refine (HC.out).mono ?_
 rintro e w1 hp
 cases r with
 | ok S' =>
  obtain ⟨rfl, hp⟩ := hp
  have HP := Lib.hid hp
  clear hp
  go_wp2_with fail
  go_end0
  exact PostO.pre (R := .ok S') ⟨rfl, HP.out⟩ HG.out
 | tr t x =>
  obtain ⟨rfl, hp⟩ := hp
  have HP := Lib.hid hp
  clear hp
  go_wp2_with fail
  exact ⟨rfl, PostO.pre (R := .tr t x) ⟨rfl, HP.out⟩ HG.out⟩

theorem exe_20 (E : Env) (ov : Value) (S : Ms) (k : Nat) (s im ax bk sz : Int) (w : World) (h : Mc E ov S w) (hd : k < 8) (hi : InD ⟨20, k, s, im, ax, bk, sz⟩) (hl : EvIn S.out) :
  Calls Tryz.prog 63 #[.pointer (some ⟨E.b, 0, none⟩), .agg #[.int .i64 20, .int .i64 (k : Int), .int .i64 s, .int .u16 im, .int .u16 ax, .int .i64 bk, .int .i64 sz]] w fun e w' => PostO E ov S w (exP E.I E.T ⟨20, k, s, im, ax, bk, sz⟩ S) e w' := by
 obtain ⟨n0, n1, n2, n3, n4, n5, n6⟩ := ins_new w 20 k s im ax bk sz
 have H := Lib.hid (h.alloc (.cells #[.int .i64 20, .int .i64 (k : Int), .int .i64 s, .int .u16 im, .int .u16 ax, .int .i64 bk, .int .i64 sz] 58))
 have HG := Lib.hid (gb_alloc (gb_refl w (some E.b)) (.cells #[.int .i64 20, .int .i64 (k : Int), .int .i64 s, .int .u16 im, .int .u16 ax, .int .i64 bk, .int .i64 sz] 58))
 have hm : U16 im := ⟨hi.ok.m0, hi.ok.m1⟩
 have hx : U16 ax := ⟨hi.ok.a0, hi.ok.a1⟩
 have HC := Lib.hid ((use_20 E ov S k s im ax bk sz _ H.out hd hm).mono fun e w' hp => (show PostO E ov S (w.alloc (.cells #[.int .i64 20, .int .i64 (k : Int), .int .i64 s, .int .u16 im, .int .u16 ax, .int .i64 bk, .int .i64 sz] 58)) (exP E.I E.T ⟨20, k, s, im, ax, bk, sz⟩ S) e w' from PostO.of hp))
 obtain ⟨r, hr⟩ : ∃ r, exP E.I E.T ⟨20, k, s, im, ax, bk, sz⟩ S = r := ⟨_, rfl⟩
 rw [hr] at HC ⊢
 clear h hr hm hx hi hl
 go_enter Tryz.func63, Tryz.ntmps63
 go_wp2_with fail
 refine (HC.out).mono ?_
 rintro e w1 hp
 cases r with
 | ok S' =>
  obtain ⟨rfl, hp⟩ := hp
  have HP := Lib.hid hp
  clear hp
  go_wp2_with fail
  go_end0
  exact PostO.pre (R := .ok S') ⟨rfl, HP.out⟩ HG.out
 | tr t x =>
  obtain ⟨rfl, hp⟩ := hp
  have HP := Lib.hid hp
  clear hp
  go_wp2_with fail
  exact ⟨rfl, PostO.pre (R := .tr t x) ⟨rfl, HP.out⟩ HG.out⟩

theorem exe_5 (E : Env) (ov : Value) (S : Ms) (k : Nat) (s im ax bk sz : Int) (w : World) (h : Mc E ov S w) (hd : k < 8) (hi : InD ⟨5, k, s, im, ax, bk, sz⟩) (hl : EvIn S.out) :
  Calls Tryz.prog 63 #[.pointer (some ⟨E.b, 0, none⟩), .agg #[.int .i64 5, .int .i64 (k : Int), .int .i64 s, .int .u16 im, .int .u16 ax, .int .i64 bk, .int .i64 sz]] w fun e w' => PostO E ov S w (exP E.I E.T ⟨5, k, s, im, ax, bk, sz⟩ S) e w' := by
 obtain ⟨n0, n1, n2, n3, n4, n5, n6⟩ := ins_new w 5 k s im ax bk sz
 have H := Lib.hid (h.alloc (.cells #[.int .i64 5, .int .i64 (k : Int), .int .i64 s, .int .u16 im, .int .u16 ax, .int .i64 bk, .int .i64 sz] 58))
 have HG := Lib.hid (gb_alloc (gb_refl w (some E.b)) (.cells #[.int .i64 5, .int .i64 (k : Int), .int .i64 s, .int .u16 im, .int .u16 ax, .int .i64 bk, .int .i64 sz] 58))
 have hm : U16 im := ⟨hi.ok.m0, hi.ok.m1⟩
 have hx : U16 ax := ⟨hi.ok.a0, hi.ok.a1⟩
 have HC := Lib.hid ((use_5 E ov S k s im ax bk sz _ H.out hd hm).mono fun e w' hp => (show PostO E ov S (w.alloc (.cells #[.int .i64 5, .int .i64 (k : Int), .int .i64 s, .int .u16 im, .int .u16 ax, .int .i64 bk, .int .i64 sz] 58)) (exP E.I E.T ⟨5, k, s, im, ax, bk, sz⟩ S) e w' from PostO.of hp))
 obtain ⟨r, hr⟩ : ∃ r, exP E.I E.T ⟨5, k, s, im, ax, bk, sz⟩ S = r := ⟨_, rfl⟩
 rw [hr] at HC ⊢
 clear h hr hm hx hi hl
 go_enter Tryz.func63, Tryz.ntmps63
 go_wp2_with fail
 refine (HC.out).mono ?_
 rintro e w1 hp
 cases r with
 | ok S' =>
  obtain ⟨rfl, hp⟩ := hp
  have HP := Lib.hid hp
  clear hp
  go_wp2_with fail
  go_end0
  exact PostO.pre (R := .ok S') ⟨rfl, HP.out⟩ HG.out
 | tr t x =>
  obtain ⟨rfl, hp⟩ := hp
  have HP := Lib.hid hp
  clear hp
  go_wp2_with fail
  exact ⟨rfl, PostO.pre (R := .tr t x) ⟨rfl, HP.out⟩ HG.out⟩

theorem exe_21 (E : Env) (ov : Value) (S : Ms) (k : Nat) (s im ax bk sz : Int) (w : World) (h : Mc E ov S w) (hd : k < 8) (hi : InD ⟨21, k, s, im, ax, bk, sz⟩) (hl : EvIn S.out) :
  Calls Tryz.prog 63 #[.pointer (some ⟨E.b, 0, none⟩), .agg #[.int .i64 21, .int .i64 (k : Int), .int .i64 s, .int .u16 im, .int .u16 ax, .int .i64 bk, .int .i64 sz]] w fun e w' => PostO E ov S w (exP E.I E.T ⟨21, k, s, im, ax, bk, sz⟩ S) e w' := by
 obtain ⟨n0, n1, n2, n3, n4, n5, n6⟩ := ins_new w 21 k s im ax bk sz
 have H := Lib.hid (h.alloc (.cells #[.int .i64 21, .int .i64 (k : Int), .int .i64 s, .int .u16 im, .int .u16 ax, .int .i64 bk, .int .i64 sz] 58))
 have HG := Lib.hid (gb_alloc (gb_refl w (some E.b)) (.cells #[.int .i64 21, .int .i64 (k : Int), .int .i64 s, .int .u16 im, .int .u16 ax, .int .i64 bk, .int .i64 sz] 58))
 have hm : U16 im := ⟨hi.ok.m0, hi.ok.m1⟩
 have hx : U16 ax := ⟨hi.ok.a0, hi.ok.a1⟩
 have HC := Lib.hid ((use_21 E ov S k s im ax bk sz _ H.out hd hm).mono fun e w' hp => (show PostO E ov S (w.alloc (.cells #[.int .i64 21, .int .i64 (k : Int), .int .i64 s, .int .u16 im, .int .u16 ax, .int .i64 bk, .int .i64 sz] 58)) (exP E.I E.T ⟨21, k, s, im, ax, bk, sz⟩ S) e w' from PostO.of hp))
 obtain ⟨r, hr⟩ : ∃ r, exP E.I E.T ⟨21, k, s, im, ax, bk, sz⟩ S = r := ⟨_, rfl⟩
 rw [hr] at HC ⊢
 clear h hr hm hx hi hl
 go_enter Tryz.func63, Tryz.ntmps63
 go_wp2_with fail
 refine (HC.out).mono ?_
 rintro e w1 hp
 cases r with
 | ok S' =>
  obtain ⟨rfl, hp⟩ := hp
  have HP := Lib.hid hp
  clear hp
  go_wp2_with fail
  go_end0
  exact PostO.pre (R := .ok S') ⟨rfl, HP.out⟩ HG.out
 | tr t x =>
  obtain ⟨rfl, hp⟩ := hp
  have HP := Lib.hid hp
  clear hp
  go_wp2_with fail
  exact ⟨rfl, PostO.pre (R := .tr t x) ⟨rfl, HP.out⟩ HG.out⟩

theorem exe_160 (E : Env) (ov : Value) (S : Ms) (k : Nat) (s im ax bk sz : Int) (w : World) (h : Mc E ov S w) (hd : k < 8) (hi : InD ⟨160, k, s, im, ax, bk, sz⟩) (hl : EvIn S.out) :
  Calls Tryz.prog 63 #[.pointer (some ⟨E.b, 0, none⟩), .agg #[.int .i64 160, .int .i64 (k : Int), .int .i64 s, .int .u16 im, .int .u16 ax, .int .i64 bk, .int .i64 sz]] w fun e w' => PostO E ov S w (exP E.I E.T ⟨160, k, s, im, ax, bk, sz⟩ S) e w' := by
 obtain ⟨n0, n1, n2, n3, n4, n5, n6⟩ := ins_new w 160 k s im ax bk sz
 have H := Lib.hid (h.alloc (.cells #[.int .i64 160, .int .i64 (k : Int), .int .i64 s, .int .u16 im, .int .u16 ax, .int .i64 bk, .int .i64 sz] 58))
 have HG := Lib.hid (gb_alloc (gb_refl w (some E.b)) (.cells #[.int .i64 160, .int .i64 (k : Int), .int .i64 s, .int .u16 im, .int .u16 ax, .int .i64 bk, .int .i64 sz] 58))
 have hm : U16 im := ⟨hi.ok.m0, hi.ok.m1⟩
 have hx : U16 ax := ⟨hi.ok.a0, hi.ok.a1⟩
 have HC := Lib.hid ((use_160 E ov S k s im ax bk sz _ H.out hd hm).mono fun e w' hp => (show PostO E ov S (w.alloc (.cells #[.int .i64 160, .int .i64 (k : Int), .int .i64 s, .int .u16 im, .int .u16 ax, .int .i64 bk, .int .i64 sz] 58)) (exP E.I E.T ⟨160, k, s, im, ax, bk, sz⟩ S) e w' from PostO.of hp))
 obtain ⟨r, hr⟩ : ∃ r, exP E.I E.T ⟨160, k, s, im, ax, bk, sz⟩ S = r := ⟨_, rfl⟩
 rw [hr] at HC ⊢
 clear h hr hm hx hi hl
 go_enter Tryz.func63, Tryz.ntmps63
 go_wp2_with fail
 refine (HC.out).mono ?_
 rintro e w1 hp
 cases r with
 | ok S' =>
  obtain ⟨rfl, hp⟩ := hp
  have HP := Lib.hid hp
  clear hp
  go_wp2_with fail
  go_end0
  exact PostO.pre (R := .ok S') ⟨rfl, HP.out⟩ HG.out
 | tr t x =>
  obtain ⟨rfl, hp⟩ := hp
  have HP := Lib.hid hp
  clear hp
  go_wp2_with fail
  exact ⟨rfl, PostO.pre (R := .tr t x) ⟨rfl, HP.out⟩ HG.out⟩

theorem exe_161 (E : Env) (ov : Value) (S : Ms) (k : Nat) (s im ax bk sz : Int) (w : World) (h : Mc E ov S w) (hd : k < 8) (hi : InD ⟨161, k, s, im, ax, bk, sz⟩) (hl : EvIn S.out) :
  Calls Tryz.prog 63 #[.pointer (some ⟨E.b, 0, none⟩), .agg #[.int .i64 161, .int .i64 (k : Int), .int .i64 s, .int .u16 im, .int .u16 ax, .int .i64 bk, .int .i64 sz]] w fun e w' => PostO E ov S w (exP E.I E.T ⟨161, k, s, im, ax, bk, sz⟩ S) e w' := by
 obtain ⟨n0, n1, n2, n3, n4, n5, n6⟩ := ins_new w 161 k s im ax bk sz
 have H := Lib.hid (h.alloc (.cells #[.int .i64 161, .int .i64 (k : Int), .int .i64 s, .int .u16 im, .int .u16 ax, .int .i64 bk, .int .i64 sz] 58))
 have HG := Lib.hid (gb_alloc (gb_refl w (some E.b)) (.cells #[.int .i64 161, .int .i64 (k : Int), .int .i64 s, .int .u16 im, .int .u16 ax, .int .i64 bk, .int .i64 sz] 58))
 have hm : U16 im := ⟨hi.ok.m0, hi.ok.m1⟩
 have hx : U16 ax := ⟨hi.ok.a0, hi.ok.a1⟩
 have HC := Lib.hid ((use_161 E ov S k s im ax bk sz _ H.out hd hm).mono fun e w' hp => (show PostO E ov S (w.alloc (.cells #[.int .i64 161, .int .i64 (k : Int), .int .i64 s, .int .u16 im, .int .u16 ax, .int .i64 bk, .int .i64 sz] 58)) (exP E.I E.T ⟨161, k, s, im, ax, bk, sz⟩ S) e w' from PostO.of hp))
 obtain ⟨r, hr⟩ : ∃ r, exP E.I E.T ⟨161, k, s, im, ax, bk, sz⟩ S = r := ⟨_, rfl⟩
 rw [hr] at HC ⊢
 clear h hr hm hx hi hl
 go_enter Tryz.func63, Tryz.ntmps63
 go_wp2_with fail
 refine (HC.out).mono ?_
 rintro e w1 hp
 cases r with
 | ok S' =>
  obtain ⟨rfl, hp⟩ := hp
  have HP := Lib.hid hp
  clear hp
  go_wp2_with fail
  go_end0
  exact PostO.pre (R := .ok S') ⟨rfl, HP.out⟩ HG.out
 | tr t x =>
  obtain ⟨rfl, hp⟩ := hp
  have HP := Lib.hid hp
  clear hp
  go_wp2_with fail
  exact ⟨rfl, PostO.pre (R := .tr t x) ⟨rfl, HP.out⟩ HG.out⟩

theorem exe_162 (E : Env) (ov : Value) (S : Ms) (k : Nat) (s im ax bk sz : Int) (w : World) (h : Mc E ov S w) (hd : k < 8) (hi : InD ⟨162, k, s, im, ax, bk, sz⟩) (hl : EvIn S.out) :
  Calls Tryz.prog 63 #[.pointer (some ⟨E.b, 0, none⟩), .agg #[.int .i64 162, .int .i64 (k : Int), .int .i64 s, .int .u16 im, .int .u16 ax, .int .i64 bk, .int .i64 sz]] w fun e w' => PostO E ov S w (exP E.I E.T ⟨162, k, s, im, ax, bk, sz⟩ S) e w' := by
 obtain ⟨n0, n1, n2, n3, n4, n5, n6⟩ := ins_new w 162 k s im ax bk sz
 have H := Lib.hid (h.alloc (.cells #[.int .i64 162, .int .i64 (k : Int), .int .i64 s, .int .u16 im, .int .u16 ax, .int .i64 bk, .int .i64 sz] 58))
 have HG := Lib.hid (gb_alloc (gb_refl w (some E.b)) (.cells #[.int .i64 162, .int .i64 (k : Int), .int .i64 s, .int .u16 im, .int .u16 ax, .int .i64 bk, .int .i64 sz] 58))
 have hm : U16 im := ⟨hi.ok.m0, hi.ok.m1⟩
 have hx : U16 ax := ⟨hi.ok.a0, hi.ok.a1⟩
 have HC := Lib.hid ((use_162 E ov S k s im ax bk sz _ H.out hd hm).mono fun e w' hp => (show PostO E ov S (w.alloc (.cells #[.int .i64 162, .int .i64 (k : Int), .int .i64 s, .int .u16 im, .int .u16 ax, .int .i64 bk, .int .i64 sz] 58)) (exP E.I E.T ⟨162, k, s, im, ax, bk, sz⟩ S) e w' from PostO.of hp))
 obtain ⟨r, hr⟩ : ∃ r, exP E.I E.T ⟨162, k, s, im, ax, bk, sz⟩ S = r := ⟨_, rfl⟩
 rw [hr] at HC ⊢
 clear h hr hm hx hi hl
 go_enter Tryz.func63, Tryz.ntmps63
 go_wp2_with fail
 refine (HC.out).mono ?_
 rintro e w1 hp
 cases r with
 | ok S' =>
  obtain ⟨rfl, hp⟩ := hp
  have HP := Lib.hid hp
  clear hp
  go_wp2_with fail
  go_end0
  exact PostO.pre (R := .ok S') ⟨rfl, HP.out⟩ HG.out
 | tr t x =>
  obtain ⟨rfl, hp⟩ := hp
  have HP := Lib.hid hp
  clear hp
  go_wp2_with fail
  exact ⟨rfl, PostO.pre (R := .tr t x) ⟨rfl, HP.out⟩ HG.out⟩

theorem exe_163 (E : Env) (ov : Value) (S : Ms) (k : Nat) (s im ax bk sz : Int) (w : World) (h : Mc E ov S w) (hd : k < 8) (hi : InD ⟨163, k, s, im, ax, bk, sz⟩) (hl : EvIn S.out) :
  Calls Tryz.prog 63 #[.pointer (some ⟨E.b, 0, none⟩), .agg #[.int .i64 163, .int .i64 (k : Int), .int .i64 s, .int .u16 im, .int .u16 ax, .int .i64 bk, .int .i64 sz]] w fun e w' => PostO E ov S w (exP E.I E.T ⟨163, k, s, im, ax, bk, sz⟩ S) e w' := by
 obtain ⟨n0, n1, n2, n3, n4, n5, n6⟩ := ins_new w 163 k s im ax bk sz
 have H := Lib.hid (h.alloc (.cells #[.int .i64 163, .int .i64 (k : Int), .int .i64 s, .int .u16 im, .int .u16 ax, .int .i64 bk, .int .i64 sz] 58))
 have HG := Lib.hid (gb_alloc (gb_refl w (some E.b)) (.cells #[.int .i64 163, .int .i64 (k : Int), .int .i64 s, .int .u16 im, .int .u16 ax, .int .i64 bk, .int .i64 sz] 58))
 have hm : U16 im := ⟨hi.ok.m0, hi.ok.m1⟩
 have hx : U16 ax := ⟨hi.ok.a0, hi.ok.a1⟩
 have HC := Lib.hid ((use_163 E ov S k s im ax bk sz _ H.out hd hm).mono fun e w' hp => (show PostO E ov S (w.alloc (.cells #[.int .i64 163, .int .i64 (k : Int), .int .i64 s, .int .u16 im, .int .u16 ax, .int .i64 bk, .int .i64 sz] 58)) (exP E.I E.T ⟨163, k, s, im, ax, bk, sz⟩ S) e w' from PostO.of hp))
 obtain ⟨r, hr⟩ : ∃ r, exP E.I E.T ⟨163, k, s, im, ax, bk, sz⟩ S = r := ⟨_, rfl⟩
 rw [hr] at HC ⊢
 clear h hr hm hx hi hl
 go_enter Tryz.func63, Tryz.ntmps63
 go_wp2_with fail
 refine (HC.out).mono ?_
 rintro e w1 hp
 cases r with
 | ok S' =>
  obtain ⟨rfl, hp⟩ := hp
  have HP := Lib.hid hp
  clear hp
  go_wp2_with fail
  go_end0
  exact PostO.pre (R := .ok S') ⟨rfl, HP.out⟩ HG.out
 | tr t x =>
  obtain ⟨rfl, hp⟩ := hp
  have HP := Lib.hid hp
  clear hp
  go_wp2_with fail
  exact ⟨rfl, PostO.pre (R := .tr t x) ⟨rfl, HP.out⟩ HG.out⟩

theorem exe_128 (E : Env) (ov : Value) (S : Ms) (k : Nat) (s im ax bk sz : Int) (w : World) (h : Mc E ov S w) (hd : k < 8) (hi : InD ⟨128, k, s, im, ax, bk, sz⟩) (hl : EvIn S.out) :
  Calls Tryz.prog 63 #[.pointer (some ⟨E.b, 0, none⟩), .agg #[.int .i64 128, .int .i64 (k : Int), .int .i64 s, .int .u16 im, .int .u16 ax, .int .i64 bk, .int .i64 sz]] w fun e w' => PostO E ov S w (exP E.I E.T ⟨128, k, s, im, ax, bk, sz⟩ S) e w' := by
 obtain ⟨n0, n1, n2, n3, n4, n5, n6⟩ := ins_new w 128 k s im ax bk sz
 have H := Lib.hid (h.alloc (.cells #[.int .i64 128, .int .i64 (k : Int), .int .i64 s, .int .u16 im, .int .u16 ax, .int .i64 bk, .int .i64 sz] 58))
 have HG := Lib.hid (gb_alloc (gb_refl w (some E.b)) (.cells #[.int .i64 128, .int .i64 (k : Int), .int .i64 s, .int .u16 im, .int .u16 ax, .int .i64 bk, .int .i64 sz] 58))
 have hm : U16 im := ⟨hi.ok.m0, hi.ok.m1⟩
 have hx : U16 ax := ⟨hi.ok.a0, hi.ok.a1⟩
 have HC := Lib.hid ((jump_128 E ov S k s im ax bk sz _ H.out hd hm hx).mono fun e w' hp => (show PostO E ov S (w.alloc (.cells #[.int .i64 128, .int .i64 (k : Int), .int .i64 s, .int .u16 im, .int .u16 ax, .int .i64 bk, .int .i64 sz] 58)) (exP E.I E.T ⟨128, k, s, im, ax, bk, sz⟩ S) e w' from PostO.of hp))
 obtain ⟨r, hr⟩ : ∃ r, exP E.I E.T ⟨128, k, s, im, ax, bk, sz⟩ S = r := ⟨_, rfl⟩
 rw [hr] at HC ⊢
 clear h hr hm hx hi hl
 go_enter Tryz.func63, Tryz.ntmps63
 go_wp2_with fail
 refine (HC.out).mono ?_
 rintro e w1 hp
 cases r with
 | ok S' =>
  obtain ⟨rfl, hp⟩ := hp
  have HP := Lib.hid hp
  clear hp
  go_wp2_with fail
  go_end0
  exact PostO.pre (R := .ok S') ⟨rfl, HP.out⟩ HG.out
 | tr t x =>
  obtain ⟨rfl, hp⟩ := hp
  have HP := Lib.hid hp
  clear hp
  go_wp2_with fail
  exact ⟨rfl, PostO.pre (R := .tr t x) ⟨rfl, HP.out⟩ HG.out⟩

theorem exe_129 (E : Env) (ov : Value) (S : Ms) (k : Nat) (s im ax bk sz : Int) (w : World) (h : Mc E ov S w) (hd : k < 8) (hi : InD ⟨129, k, s, im, ax, bk, sz⟩) (hl : EvIn S.out) :
  Calls Tryz.prog 63 #[.pointer (some ⟨E.b, 0, none⟩), .agg #[.int .i64 129, .int .i64 (k : Int), .int .i64 s, .int .u16 im, .int .u16 ax, .int .i64 bk, .int .i64 sz]] w fun e w' => PostO E ov S w (exP E.I E.T ⟨129, k, s, im, ax, bk, sz⟩ S) e w' := by
 obtain ⟨n0, n1, n2, n3, n4, n5, n6⟩ := ins_new w 129 k s im ax bk sz
 have H := Lib.hid (h.alloc (.cells #[.int .i64 129, .int .i64 (k : Int), .int .i64 s, .int .u16 im, .int .u16 ax, .int .i64 bk, .int .i64 sz] 58))
 have HG := Lib.hid (gb_alloc (gb_refl w (some E.b)) (.cells #[.int .i64 129, .int .i64 (k : Int), .int .i64 s, .int .u16 im, .int .u16 ax, .int .i64 bk, .int .i64 sz] 58))
 have hm : U16 im := ⟨hi.ok.m0, hi.ok.m1⟩
 have hx : U16 ax := ⟨hi.ok.a0, hi.ok.a1⟩
 have HC := Lib.hid ((jump_129 E ov S k s im ax bk sz _ H.out hd hm hx).mono fun e w' hp => (show PostO E ov S (w.alloc (.cells #[.int .i64 129, .int .i64 (k : Int), .int .i64 s, .int .u16 im, .int .u16 ax, .int .i64 bk, .int .i64 sz] 58)) (exP E.I E.T ⟨129, k, s, im, ax, bk, sz⟩ S) e w' from PostO.of hp))
 obtain ⟨r, hr⟩ : ∃ r, exP E.I E.T ⟨129, k, s, im, ax, bk, sz⟩ S = r := ⟨_, rfl⟩
 rw [hr] at HC ⊢
 clear h hr hm hx hi hl
 go_enter Tryz.func63, Tryz.ntmps63
 go_wp2_with fail
 refine (HC.out).mono ?_
 rintro e w1 hp
 cases r with
 | ok S' =>
  obtain ⟨rfl, hp⟩ := hp
  have HP := Lib.hid hp
  clear hp
  go_wp2_with fail
  go_end0
  exact PostO.pre (R := .ok S') ⟨rfl, HP.out⟩ HG.out
 | tr t x =>
  obtain ⟨rfl, hp⟩ := hp
  have HP := Lib.hid hp
  clear hp
  go_wp2_with fail
  exact ⟨rfl, PostO.pre (R := .tr t x) ⟨rfl, HP.out⟩ HG.out⟩

theorem exe_130 (E : Env) (ov : Value) (S : Ms) (k : Nat) (s im ax bk sz : Int) (w : World) (h : Mc E ov S w) (hd : k < 8) (hi : InD ⟨130, k, s, im, ax, bk, sz⟩) (hl : EvIn S.out) :
  Calls Tryz.prog 63 #[.pointer (some ⟨E.b, 0, none⟩), .agg #[.int .i64 130, .int .i64 (k : Int), .int .i64 s, .int .u16 im, .int .u16 ax, .int .i64 bk, .int .i64 sz]] w fun e w' => PostO E ov S w (exP E.I E.T ⟨130, k, s, im, ax, bk, sz⟩ S) e w' := by
 obtain ⟨n0, n1, n2, n3, n4, n5, n6⟩ := ins_new w 130 k s im ax bk sz
 have H := Lib.hid (h.alloc (.cells #[.int .i64 130, .int .i64 (k : Int), .int .i64 s, .int .u16 im, .int .u16 ax, .int .i64 bk, .int .i64 sz] 58))
 have HG := Lib.hid (gb_alloc (gb_refl w (some E.b)) (.cells #[.int .i64 130, .int .i64 (k : Int), .int .i64 s, .int .u16 im, .int .u16 ax, .int .i64 bk, .int .i64 sz] 58))
 have hm : U16 im := ⟨hi.ok.m0, hi.ok.m1⟩
 have hx : U16 ax := ⟨hi.ok.a0, hi.ok.a1⟩
 have HC := Lib.hid ((jump_130 E ov S k s im ax bk sz _ H.out hd hm hx).mono fun e w' hp => (show PostO E ov S (w.alloc (.cells #[.int .i64 130, .int .i64 (k : Int), .int .i64 s, .int .u16 im, .int .u16 ax, .int .i64 bk, .int .i64 sz] 58)) (exP E.I E.T ⟨130, k, s, im, ax, bk, sz⟩ S) e w' from PostO.of hp))
 obtain ⟨r, hr⟩ : ∃ r, exP E.I E.T ⟨130, k, s, im, ax, bk, sz⟩ S = r := ⟨_, rfl⟩
 rw [hr] at HC ⊢
 clear h hr hm hx hi hl
 go_enter Tryz.func63, Tryz.ntmps63
 go_wp2_with fail
 refine (HC.out).mono ?_
 rintro e w1 hp
 cases r with
 | ok S' =>
  obtain ⟨rfl, hp⟩ := hp
  have HP := Lib.hid hp
  clear hp
  go_wp2_with fail
  go_end0
  exact PostO.pre (R := .ok S') ⟨rfl, HP.out⟩ HG.out
 | tr t x =>
  obtain ⟨rfl, hp⟩ := hp
  have HP := Lib.hid hp
  clear hp
  go_wp2_with fail
  exact ⟨rfl, PostO.pre (R := .tr t x) ⟨rfl, HP.out⟩ HG.out⟩

theorem exe_131 (E : Env) (ov : Value) (S : Ms) (k : Nat) (s im ax bk sz : Int) (w : World) (h : Mc E ov S w) (hd : k < 8) (hi : InD ⟨131, k, s, im, ax, bk, sz⟩) (hl : EvIn S.out) :
  Calls Tryz.prog 63 #[.pointer (some ⟨E.b, 0, none⟩), .agg #[.int .i64 131, .int .i64 (k : Int), .int .i64 s, .int .u16 im, .int .u16 ax, .int .i64 bk, .int .i64 sz]] w fun e w' => PostO E ov S w (exP E.I E.T ⟨131, k, s, im, ax, bk, sz⟩ S) e w' := by
 obtain ⟨n0, n1, n2, n3, n4, n5, n6⟩ := ins_new w 131 k s im ax bk sz
 have H := Lib.hid (h.alloc (.cells #[.int .i64 131, .int .i64 (k : Int), .int .i64 s, .int .u16 im, .int .u16 ax, .int .i64 bk, .int .i64 sz] 58))
 have HG := Lib.hid (gb_alloc (gb_refl w (some E.b)) (.cells #[.int .i64 131, .int .i64 (k : Int), .int .i64 s, .int .u16 im, .int .u16 ax, .int .i64 bk, .int .i64 sz] 58))
 have hm : U16 im := ⟨hi.ok.m0, hi.ok.m1⟩
 have hx : U16 ax := ⟨hi.ok.a0, hi.ok.a1⟩
 have HC := Lib.hid ((jump_131 E ov S k s im ax bk sz _ H.out hd hm hx).mono fun e w' hp => (show PostO E ov S (w.alloc (.cells #[.int .i64 131, .int .i64 (k : Int), .int .i64 s, .int .u16 im, .int .u16 ax, .int .i64 bk, .int .i64 sz] 58)) (exP E.I E.T ⟨131, k, s, im, ax, bk, sz⟩ S) e w' from PostO.of hp))
 obtain ⟨r, hr⟩ : ∃ r, exP E.I E.T ⟨131, k, s, im, ax, bk, sz⟩ S = r := ⟨_, rfl⟩
 rw [hr] at HC ⊢
 clear h hr hm hx hi hl
 go_enter Tryz.func63, Tryz.ntmps63
 go_wp2_with fail
 refine (HC.out).mono ?_
 rintro e w1 hp
 cases r with
 | ok S' =>
  obtain ⟨rfl, hp⟩ := hp
  have HP := Lib.hid hp
  clear hp
  go_wp2_with fail
  go_end0
  exact PostO.pre (R := .ok S') ⟨rfl, HP.out⟩ HG.out
 | tr t x =>
  obtain ⟨rfl, hp⟩ := hp
  have HP := Lib.hid hp
  clear hp
  go_wp2_with fail
  exact ⟨rfl, PostO.pre (R := .tr t x) ⟨rfl, HP.out⟩ HG.out⟩

theorem exe_132 (E : Env) (ov : Value) (S : Ms) (k : Nat) (s im ax bk sz : Int) (w : World) (h : Mc E ov S w) (hd : k < 8) (hi : InD ⟨132, k, s, im, ax, bk, sz⟩) (hl : EvIn S.out) :
  Calls Tryz.prog 63 #[.pointer (some ⟨E.b, 0, none⟩), .agg #[.int .i64 132, .int .i64 (k : Int), .int .i64 s, .int .u16 im, .int .u16 ax, .int .i64 bk, .int .i64 sz]] w fun e w' => PostO E ov S w (exP E.I E.T ⟨132, k, s, im, ax, bk, sz⟩ S) e w' := by
 obtain ⟨n0, n1, n2, n3, n4, n5, n6⟩ := ins_new w 132 k s im ax bk sz
 have H := Lib.hid (h.alloc (.cells #[.int .i64 132, .int .i64 (k : Int), .int .i64 s, .int .u16 im, .int .u16 ax, .int .i64 bk, .int .i64 sz] 58))
 have HG := Lib.hid (gb_alloc (gb_refl w (some E.b)) (.cells #[.int .i64 132, .int .i64 (k : Int), .int .i64 s, .int .u16 im, .int .u16 ax, .int .i64 bk, .int .i64 sz] 58))
 have hm : U16 im := ⟨hi.ok.m0, hi.ok.m1⟩
 have hx : U16 ax := ⟨hi.ok.a0, hi.ok.a1⟩
 have HC := Lib.hid ((jump_132 E ov S k s im ax bk sz _ H.out hd hm hx).mono fun e w' hp => (show PostO E ov S (w.alloc (.cells #[.int .i64 132, .int .i64 (k : Int), .int .i64 s, .int .u16 im, .int .u16 ax, .int .i64 bk, .int .i64 sz] 58)) (exP E.I E.T ⟨132, k, s, im, ax, bk, sz⟩ S) e w' from PostO.of hp))
 obtain ⟨r, hr⟩ : ∃ r, exP E.I E.T ⟨132, k, s, im, ax, bk, sz⟩ S = r := ⟨_, rfl⟩
 rw [hr] at HC ⊢
 clear h hr hm hx hi hl
 go_enter Tryz.func63, Tryz.ntmps63
 go_wp2_with fail
 refine (HC.out).mono ?_
 rintro e w1 hp
 cases r with
 | ok S' =>
  obtain ⟨rfl, hp⟩ := hp
  have HP := Lib.hid hp
  clear hp
  go_wp2_with fail
  go_end0
  exact PostO.pre (R := .ok S') ⟨rfl, HP.out⟩ HG.out
 | tr t x =>
  obtain ⟨rfl, hp⟩ := hp
  have HP := Lib.hid hp
  clear hp
  go_wp2_with fail
  exact ⟨rfl, PostO.pre (R := .tr t x) ⟨rfl, HP.out⟩ HG.out⟩

theorem exe_1 (E : Env) (ov : Value) (S : Ms) (k : Nat) (s im ax bk sz : Int) (w : World) (h : Mc E ov S w) (hd : k < 8) (hi : InD ⟨1, k, s, im, ax, bk, sz⟩) (hl : EvIn S.out) :
  Calls Tryz.prog 63 #[.pointer (some ⟨E.b, 0, none⟩), .agg #[.int .i64 1, .int .i64 (k : Int), .int .i64 s, .int .u16 im, .int .u16 ax, .int .i64 bk, .int .i64 sz]] w fun e w' => PostO E ov S w (exP E.I E.T ⟨1, k, s, im, ax, bk, sz⟩ S) e w' := by
 obtain ⟨n0, n1, n2, n3, n4, n5, n6⟩ := ins_new w 1 k s im ax bk sz
 have H := Lib.hid (h.alloc (.cells #[.int .i64 1, .int .i64 (k : Int), .int .i64 s, .int .u16 im, .int .u16 ax, .int .i64 bk, .int .i64 sz] 58))
 have HG := Lib.hid (gb_alloc (gb_refl w (some E.b)) (.cells #[.int .i64 1, .int .i64 (k : Int), .int .i64 s, .int .u16 im, .int .u16 ax, .int .i64 bk, .int .i64 sz] 58))
 have hm : U16 im := ⟨hi.ok.m0, hi.ok.m1⟩
 have hx : U16 ax := ⟨hi.ok.a0, hi.ok.a1⟩
 have HC := Lib.hid ((jump_1 E ov S k s im ax bk sz _ H.out hd hm hx).mono fun e w' hp => (show PostO E ov S (w.alloc (.cells #[.int .i64 1, .int .i64 (k : Int), .int .i64 s, .int .u16 im, .int .u16 ax, .int .i64 bk, .int .i64 sz] 58)) (exP E.I E.T ⟨1, k, s, im, ax, bk, sz⟩ S) e w' from PostO.of hp))
 obtain ⟨r, hr⟩ : ∃ r, exP E.I E.T ⟨1, k, s, im, ax, bk, sz⟩ S = r := ⟨_, rfl⟩
 rw [hr] at HC ⊢
 clear h hr hm hx hi hl
 go_enter Tryz.func63, Tryz.ntmps63
 go_wp2_with fail
 refine (HC.out).mono ?_
 rintro e w1 hp
 cases r with
 | ok S' =>
  obtain ⟨rfl, hp⟩ := hp
  have HP := Lib.hid hp
  clear hp
  go_wp2_with fail
  go_end0
  exact PostO.pre (R := .ok S') ⟨rfl, HP.out⟩ HG.out
 | tr t x =>
  obtain ⟨rfl, hp⟩ := hp
  have HP := Lib.hid hp
  clear hp
  go_wp2_with fail
  exact ⟨rfl, PostO.pre (R := .tr t x) ⟨rfl, HP.out⟩ HG.out⟩

theorem exe_134 (E : Env) (ov : Value) (S : Ms) (k : Nat) (s im ax bk sz : Int) (w : World) (h : Mc E ov S w) (hd : k < 8) (hi : InD ⟨134, k, s, im, ax, bk, sz⟩) (hl : EvIn S.out) :
  Calls Tryz.prog 63 #[.pointer (some ⟨E.b, 0, none⟩), .agg #[.int .i64 134, .int .i64 (k : Int), .int .i64 s, .int .u16 im, .int .u16 ax, .int .i64 bk, .int .i64 sz]] w fun e w' => PostO E ov S w (exP E.I E.T ⟨134, k, s, im, ax, bk, sz⟩ S) e w' := by
 obtain ⟨n0, n1, n2, n3, n4, n5, n6⟩ := ins_new w 134 k s im ax bk sz
 have H := Lib.hid (h.alloc (.cells #[.int .i64 134, .int .i64 (k : Int), .int .i64 s, .int .u16 im, .int .u16 ax, .int .i64 bk, .int .i64 sz] 58))
 have HG := Lib.hid (gb_alloc (gb_refl w (some E.b)) (.cells #[.int .i64 134, .int .i64 (k : Int), .int .i64 s, .int .u16 im, .int .u16 ax, .int .i64 bk, .int .i64 sz] 58))
 have hm : U16 im := ⟨hi.ok.m0, hi.ok.m1⟩
 have hx : U16 ax := ⟨hi.ok.a0, hi.ok.a1⟩
 have HC := Lib.hid ((jump_134 E ov S k s im ax bk sz _ H.out hd hm hx).mono fun e w' hp => (show PostO E ov S (w.alloc (.cells #[.int .i64 134, .int .i64 (k : Int), .int .i64 s, .int .u16 im, .int .u16 ax, .int .i64 bk, .int .i64 sz] 58)) (exP E.I E.T ⟨134, k, s, im, ax, bk, sz⟩ S) e w' from PostO.of hp))
 obtain ⟨r, hr⟩ : ∃ r, exP E.I E.T ⟨134, k, s, im, ax, bk, sz⟩ S = r := ⟨_, rfl⟩
 rw [hr] at HC ⊢
 clear h hr hm hx hi hl
 go_enter Tryz.func63, Tryz.ntmps63
 go_wp2_with fail
 refine (HC.out).mono ?_
 rintro e w1 hp
 cases r with
 | ok S' =>
  obtain ⟨rfl, hp⟩ := hp
  have HP := Lib.hid hp
  clear hp
  go_wp2_with fail
  go_end0
  exact PostO.pre (R := .ok S') ⟨rfl, HP.out⟩ HG.out
 | tr t x =>
  obtain ⟨rfl, hp⟩ := hp
  have HP := Lib.hid hp
  clear hp
  go_wp2_with fail
  exact ⟨rfl, PostO.pre (R := .tr t x) ⟨rfl, HP.out⟩ HG.out⟩

theorem exe_2 (E : Env) (ov : Value) (S : Ms) (k : Nat) (s im ax bk sz : Int) (w : World) (h : Mc E ov S w) (hd : k < 8) (hi : InD ⟨2, k, s, im, ax, bk, sz⟩) (hl : EvIn S.out) :
  Calls Tryz.prog 63 #[.pointer (some ⟨E.b, 0, none⟩), .agg #[.int .i64 2, .int .i64 (k : Int), .int .i64 s, .int .u16 im, .int .u16 ax, .int .i64 bk, .int .i64 sz]] w fun e w' => PostO E ov S w (exP E.I E.T ⟨2, k, s, im, ax, bk, sz⟩ S) e w' := by
 obtain ⟨n0, n1, n2, n3, n4, n5, n6⟩ := ins_new w 2 k s im ax bk sz
 have H := Lib.hid (h.alloc (.cells #[.int .i64 2, .int .i64 (k : Int), .int .i64 s, .int .u16 im, .int .u16 ax, .int .i64 bk, .int .i64 sz] 58))
 have HG := Lib.hid (gb_alloc (gb_refl w (some E.b)) (.cells #[.int .i64 2, .int .i64 (k : Int), .int .i64 s, .int .u16 im, .int .u16 ax, .int .i64 bk, .int .i64 sz] 58))
 have hm : U16 im := ⟨hi.ok.m0, hi.ok.m1⟩
 have hx : U16 ax := ⟨hi.ok.a0, hi.ok.a1⟩
 have HC := Lib.hid ((jump_2 E ov S k s im ax bk sz _ H.out hd hm hx).mono fun e w' hp => (show PostO E ov S (w.alloc (.cells #[.int .i64 2, .int .i64 (k : Int), .int .i64 s, .int .u16 im, .int .u16 ax, .int .i64 bk, .int .i64 sz] 58)) (exP E.I E.T ⟨2, k, s, im, ax, bk, sz⟩ S) e w' from PostO.of hp))
 obtain ⟨r, hr⟩ : ∃ r, exP E.I E.T ⟨2, k, s, im, ax, bk, sz⟩ S = r := ⟨_, rfl⟩
 rw [hr] at HC ⊢
 clear h hr hm hx hi hl
 go_enter Tryz.func63, Tryz.ntmps63
 go_wp2_with fail
 refine (HC.out).mono ?_
 rintro e w1 hp
 cases r with
 | ok S' =>
  obtain ⟨rfl, hp⟩ := hp
  have HP := Lib.hid hp
  clear hp
  go_wp2_with fail
  go_end0
  exact PostO.pre (R := .ok S') ⟨rfl, HP.out⟩ HG.out
 | tr t x =>
  obtain ⟨rfl, hp⟩ := hp
  have HP := Lib.hid hp
  clear hp
  go_wp2_with fail
  exact ⟨rfl, PostO.pre (R := .tr t x) ⟨rfl, HP.out⟩ HG.out⟩

theorem exe_133 (E : Env) (ov : Value) (S : Ms) (k : Nat) (s im ax bk sz : Int) (w : World) (h : Mc E ov S w) (hd : k < 8) (hi : InD ⟨133, k, s, im, ax, bk, sz⟩) (hl : EvIn S.out) :
  Calls Tryz.prog 63 #[.pointer (some ⟨E.b, 0, none⟩), .agg #[.int .i64 133, .int .i64 (k : Int), .int .i64 s, .int .u16 im, .int .u16 ax, .int .i64 bk, .int .i64 sz]] w fun e w' => PostO E ov S w (exP E.I E.T ⟨133, k, s, im, ax, bk, sz⟩ S) e w' := by
 obtain ⟨n0, n1, n2, n3, n4, n5, n6⟩ := ins_new w 133 k s im ax bk sz
 have H := Lib.hid (h.alloc (.cells #[.int .i64 133, .int .i64 (k : Int), .int .i64 s, .int .u16 im, .int .u16 ax, .int .i64 bk, .int .i64 sz] 58))
 have HG := Lib.hid (gb_alloc (gb_refl w (some E.b)) (.cells #[.int .i64 133, .int .i64 (k : Int), .int .i64 s, .int .u16 im, .int .u16 ax, .int .i64 bk, .int .i64 sz] 58))
 have hm : U16 im := ⟨hi.ok.m0, hi.ok.m1⟩
 have hx : U16 ax := ⟨hi.ok.a0, hi.ok.a1⟩
 have HC := Lib.hid ((jump_133 E ov S k s im ax bk sz _ H.out hd hm hx hi.b0 hi.b1).mono fun e w' hp => (show PostO E ov S (w.alloc (.cells #[.int .i64 133, .int .i64 (k : Int), .int .i64 s, .int .u16 im, .int .u16 ax, .int .i64 bk, .int .i64 sz] 58)) (exP E.I E.T ⟨133, k, s, im, ax, bk, sz⟩ S) e w' from PostO.of hp))
 obtain ⟨r, hr⟩ : ∃ r, exP E.I E.T ⟨133, k, s, im, ax, bk, sz⟩ S = r := ⟨_, rfl⟩
 rw [hr] at HC ⊢
 clear h hr hm hx hi hl
 go_enter Tryz.func63, Tryz.ntmps63
 go_wp2_with fail
 refine (HC.out).mono ?_
 rintro e w1 hp
 cases r with
 | ok S' =>
  obtain ⟨rfl, hp⟩ := hp
  have HP := Lib.hid hp
  clear hp
  go_wp2_with fail
  go_end0
  exact PostO.pre (R := .ok S') ⟨rfl, HP.out⟩ HG.out
 | tr t x =>
  obtain ⟨rfl, hp⟩ := hp
  have HP := Lib.hid hp
  clear hp
  go_wp2_with fail
  exact ⟨rfl, PostO.pre (R := .tr t x) ⟨rfl, HP.out⟩ HG.out⟩

theorem exe_144 (E : Env) (ov : Value) (S : Ms) (k : Nat) (s im ax bk sz : Int) (w : World) (h : Mc E ov S w) (hd : k < 8) (hi : InD ⟨144, k, s, im, ax, bk, sz⟩) (hl : EvIn S.out) :
  Calls Tryz.prog 63 #[.pointer (some ⟨E.b, 0, none⟩), .agg #[.int .i64 144, .int .i64 (k : Int), .int .i64 s, .int .u16 im, .int .u16 ax, .int .i64 bk, .int .i64 sz]] w fun e w' => PostO E ov S w (exP E.I E.T ⟨144, k, s, im, ax, bk, sz⟩ S) e w' := by
 obtain ⟨n0, n1, n2, n3, n4, n5, n6⟩ := ins_new w 144 k s im ax bk sz
 have H := Lib.hid (h.alloc (.cells #[.int .i64 144, .int .i64 (k : Int), .int .i64 s, .int .u16 im, .int .u16 ax, .int .i64 bk, .int .i64 sz] 58))
 have HG := Lib.hid (gb_alloc (gb_refl w (some E.b)) (.cells #[.int .i64 144, .int .i64 (k : Int), .int .i64 s, .int .u16 im, .int .u16 ax, .int .i64 bk, .int .i64 sz] 58))
 have hm : U16 im := ⟨hi.ok.m0, hi.ok.m1⟩
 have hx : U16 ax := ⟨hi.ok.a0, hi.ok.a1⟩
 have HC := Lib.hid ((comm_144 E ov S k s im ax bk sz _ H.out hd hm).mono fun e w' hp => (show PostO E ov S (w.alloc (.cells #[.int .i64 144, .int .i64 (k : Int), .int .i64 s, .int .u16 im, .int .u16 ax, .int .i64 bk, .int .i64 sz] 58)) (exP E.I E.T ⟨144, k, s, im, ax, bk, sz⟩ S) e w' from PostO.of hp))
 obtain ⟨r, hr⟩ : ∃ r, exP E.I E.T ⟨144, k, s, im, ax, bk, sz⟩ S = r := ⟨_, rfl⟩
 rw [hr] at HC ⊢
 clear h hr hm hx hi hl
 go_enter Tryz.func63, Tryz.ntmps63
 go_wp2_with fail
 refine (HC.out).mono ?_
 rintro e w1 hp
 cases r with
 | ok S' =>
  obtain ⟨rfl, hp⟩ := hp
  have HP := Lib.hid hp
  clear hp
  go_wp2_with fail
  go_end0
  exact PostO.pre (R := .ok S') ⟨rfl, HP.out⟩ HG.out
 | tr t x =>
  obtain ⟨rfl, hp⟩ := hp
  have HP := Lib.hid hp
  clear hp
  go_wp2_with fail
  exact ⟨rfl, PostO.pre (R := .tr t x) ⟨rfl, HP.out⟩ HG.out⟩

theorem exe_3 (E : Env) (ov : Value) (S : Ms) (k : Nat) (s im ax bk sz : Int) (w : World) (h : Mc E ov S w) (hd : k < 8) (hi : InD ⟨3, k, s, im, ax, bk, sz⟩) (hl : EvIn S.out) :
  Calls Tryz.prog 63 #[.pointer (some ⟨E.b, 0, none⟩), .agg #[.int .i64 3, .int .i64 (k : Int), .int .i64 s, .int .u16 im, .int .u16 ax, .int .i64 bk, .int .i64 sz]] w fun e w' => PostO E ov S w (exP E.I E.T ⟨3, k, s, im, ax, bk, sz⟩ S) e w' := by
 obtain ⟨n0, n1, n2, n3, n4, n5, n6⟩ := ins_new w 3 k s im ax bk sz
 have H := Lib.hid (h.alloc (.cells #[.int .i64 3, .int .i64 (k : Int), .int .i64 s, .int .u16 im, .int .u16 ax, .int .i64 bk, .int .i64 sz] 58))
 have HG := Lib.hid (gb_alloc (gb_refl w (some E.b)) (.cells #[.int .i64 3, .int .i64 (k : Int), .int .i64 s, .int .u16 im, .int .u16 ax, .int .i64 bk, .int .i64 sz] 58))
 have hm : U16 im := ⟨hi.ok.m0, hi.ok.m1⟩
 have hx : U16 ax := ⟨hi.ok.a0, hi.ok.a1⟩
 have HC := Lib.hid ((comm_3 E ov S k s im ax bk sz _ H.out hd hm).mono fun e w' hp => (show PostO E ov S (w.alloc (.cells #[.int .i64 3, .int .i64 (k : Int), .int .i64 s, .int .u16 im, .int .u16 ax, .int .i64 bk, .int .i64 sz] 58)) (exP E.I E.T ⟨3, k, s, im, ax, bk, sz⟩ S) e w' from PostO.of hp))
 obtain ⟨r, hr⟩ : ∃ r, exP E.I E.T ⟨3, k, s, im, ax, bk, sz⟩ S = r := ⟨_, rfl⟩
 rw [hr] at HC ⊢
 clear h hr hm hx hi hl
 go_enter Tryz.func63, Tryz.ntmps63
 go_wp2_with fail
 refine (HC.out).mono ?_
 rintro e w1 hp
 cases r with
 | ok S' =>
  obtain ⟨rfl, hp⟩ := hp
  have HP := Lib.hid hp
  clear hp
  go_wp2_with fail
  go_end0
  exact PostO.pre (R := .ok S') ⟨rfl, HP.out⟩ HG.out
 | tr t x =>
  obtain ⟨rfl, hp⟩ := hp
  have HP := Lib.hid hp
  clear hp
  go_wp2_with fail
  exact ⟨rfl, PostO.pre (R := .tr t x) ⟨rfl, HP.out⟩ HG.out⟩

theorem exe_4 (E : Env) (ov : Value) (S : Ms) (k : Nat) (s im ax bk sz : Int) (w : World) (h : Mc E ov S w) (hd : k < 8) (hi : InD ⟨4, k, s, im, ax, bk, sz⟩) (hl : EvIn S.out) :
  Calls Tryz.prog 63 #[.pointer (some ⟨E.b, 0, none⟩), .agg #[.int .i64 4, .int .i64 (k : Int), .int .i64 s, .int .u16 im, .int .u16 ax, .int .i64 bk, .int .i64 sz]] w fun e w' => PostO E ov S w (exP E.I E.T ⟨4, k, s, im, ax, bk, sz⟩ S) e w' := by
 obtain ⟨n0, n1, n2, n3, n4, n5, n6⟩ := ins_new w 4 k s im ax bk sz
 have H := Lib.hid (h.alloc (.cells #[.int .i64 4, .int .i64 (k : Int), .int .i64 s, .int .u16 im, .int .u16 ax, .int .i64 bk, .int .i64 sz] 58))
 have HG := Lib.hid (gb_alloc (gb_refl w (some E.b)) (.cells #[.int .i64 4, .int .i64 (k : Int), .int .i64 s, .int .u16 im, .int .u16 ax, .int .i64 bk, .int .i64 sz] 58))
 have hm : U16 im := ⟨hi.ok.m0, hi.ok.m1⟩
 have hx : U16 ax := ⟨hi.ok.a0, hi.ok.a1⟩
 have HC := Lib.hid ((comm_4 E ov S k s im ax bk sz _ H.out hd hm).mono fun e w' hp => (show PostO E ov S (w.alloc (.cells #[.int .i64 4, .int .i64 (k : Int), .int .i64 s, .int .u16 im, .int .u16 ax, .int .i64 bk, .int .i64 sz] 58)) (exP E.I E.T ⟨4, k, s, im, ax, bk, sz⟩ S) e w' from PostO.of hp))
 obtain ⟨r, hr⟩ : ∃ r, exP E.I E.T ⟨4, k, s, im, ax, bk, sz⟩ S = r := ⟨_, rfl⟩
 rw [hr] at HC ⊢
 clear h hr hm hx hi hl
 go_enter Tryz.func63, Tryz.ntmps63
 go_wp2_with fail
 refine (HC.out).mono ?_
 rintro e w1 hp
 cases r with
 | ok S' =>
  obtain ⟨rfl, hp⟩ := hp
  have HP := Lib.hid hp
  clear hp
  go_wp2_with fail
  go_end0
  exact PostO.pre (R := .ok S') ⟨rfl, HP.out⟩ HG.out
 | tr t x =>
  obtain ⟨rfl, hp⟩ := hp
  have HP := Lib.hid hp
  clear hp
  go_wp2_with fail
  exact ⟨rfl, PostO.pre (R := .tr t x) ⟨rfl, HP.out⟩ HG.out⟩

theorem exe_145 (E : Env) (ov : Value) (S : Ms) (k : Nat) (s im ax bk sz : Int) (w : World) (h : Mc E ov S w) (hd : k < 8) (hi : InD ⟨145, k, s, im, ax, bk, sz⟩) (hl : EvIn S.out) :
  Calls Tryz.prog 63 #[.pointer (some ⟨E.b, 0, none⟩), .agg #[.int .i64 145, .int .i64 (k : Int), .int .i64 s, .int .u16 im, .int .u16 ax, .int .i64 bk, .int .i64 sz]] w fun e w' => PostO E ov S w (exP E.I E.T ⟨145, k, s, im, ax, bk, sz⟩ S) e w' := by
 obtain ⟨n0, n1, n2, n3, n4, n5, n6⟩ := ins_new w 145 k s im ax bk sz
 have H := Lib.hid (h.alloc (.cells #[.int .i64 145, .int .i64 (k : Int), .int .i64 s, .int .u16 im, .int .u16 ax, .int .i64 bk, .int .i64 sz] 58))
 have HG := Lib.hid (gb_alloc (gb_refl w (some E.b)) (.cells #[.int .i64 145, .int .i64 (k : Int), .int .i64 s, .int .u16 im, .int .u16 ax, .int .i64 bk, .int .i64 sz] 58))
 have hm : U16 im := ⟨hi.ok.m0, hi.ok.m1⟩
 have hx : U16 ax := ⟨hi.ok.a0, hi.ok.a1⟩
 have HC := Lib.hid ((comm_145 E ov S k s im ax bk sz _ H.out hd hm hl).mono fun e w' hp => (show PostO E ov S (w.alloc (.cells #[.int .i64 145, .int .i64 (k : Int), .int .i64 s, .int .u16 im, .int .u16 ax, .int .i64 bk, .int .i64 sz] 58)) (exP E.I E.T ⟨145, k, s, im, ax, bk, sz⟩ S) e w' from hp))
 obtain ⟨r, hr⟩ : ∃ r, exP E.I E.T ⟨145, k, s, im, ax, bk, sz⟩ S = r := ⟨_, rfl⟩
 rw [hr] at HC ⊢
 clear h hr hm hx hi hl
 go_enter Tryz.func63, Tryz.ntmps63
 go_wp2_with fail
 refine (HC.out).mono ?_
 rintro e w1 hp
 cases r with
 | ok S' =>
  obtain ⟨rfl, hp⟩ := hp
  have HP := Lib.hid hp
  clear hp
  go_wp2_with fail
  go_end0
  exact PostO.pre (R := .ok S') ⟨rfl, HP.out⟩ HG.out
 | tr t x =>
  obtain ⟨rfl, hp⟩ := hp
  have HP := Lib.hid hp
  clear hp
  go_wp2_with fail
  exact ⟨rfl, PostO.pre (R := .tr t x) ⟨rfl, HP.out⟩ HG.out⟩
theorem exe_bra (E : Env) (ov : Value) (S : Ms) (op : Int) (k : Nat) (s im ax bk sz : Int) (w : World) (h : Mc E ov S w) (hz : Opz E) (hd : k < 8) (hm : U16 im) (ho : 96 ≤ op ∧ op ≤ 125) :
  Calls Tryz.prog 63 #[.pointer (some ⟨E.b, 0, none⟩), .agg #[.int .i64 op, .int .i64 (k : Int), .int .i64 s, .int .u16 im, .int .u16 ax, .int .i64 bk, .int .i64 sz]] w fun e w' => PostO E ov S w (exP E.I E.T ⟨op, k, s, im, ax, bk, sz⟩ S) e w' := by
 obtain ⟨n0, n1, n2, n3, n4, n5, n6⟩ := ins_new w op k s im ax bk sz
 have H := Lib.hid (h.alloc (.cells #[.int .i64 op, .int .i64 (k : Int), .int .i64 s, .int .u16 im, .int .u16 ax, .int .i64 bk, .int .i64 sz] 58))
 have HG := Lib.hid (gb_alloc (gb_refl w (some E.b)) (.cells #[.int .i64 op, .int .i64 (k : Int), .int .i64 s, .int .u16 im, .int .u16 ax, .int .i64 bk, .int .i64 sz] 58))
 have HE := Lib.hid (show exP E.I E.T ⟨op, k, s, im, ax, bk, sz⟩ S = .ok (if condV (op % 16) S.f = true then jmp S im else S) by
  unfold exP
  simp only
  rw [if_neg (by omega), if_neg (by omega), if_neg (by omega), if_neg (by omega), if_neg (by omega), if_neg (by omega), if_neg (by omega), if_neg (by omega), if_neg (by omega), if_neg (by omega), if_neg (by omega), if_neg (by omega), if_neg (by omega), if_neg (by omega), if_neg (by omega), if_neg (by omega), if_neg (by omega), if_neg (by omega), if_neg (by omega), if_neg (by omega), if_neg (by omega), if_neg (by omega), if_neg (by omega), if_neg (by omega), if_neg (by omega), if_neg (by omega), if_neg (by omega), if_neg (by omega), if_neg (by omega), if_pos (by omega)]
  try rfl)
 have HC := Lib.hid ((branch_any E ov S op k s im ax bk sz _ H.out hm ho).mono fun e w' hp => (show PostO E ov S (w.alloc (.cells #[.int .i64 op, .int .i64 (k : Int), .int .i64 s, .int .u16 im, .int .u16 ax, .int .i64 bk, .int .i64 sz] 58)) (exP E.I E.T ⟨op, k, s, im, ax, bk, sz⟩ S) e w' from HE.out ▸ PostO.of hp))
 obtain ⟨r, hr⟩ : ∃ r, exP E.I E.T ⟨op, k, s, im, ax, bk, sz⟩ S = r := ⟨_, rfl⟩
 rw [hr] at HC ⊢
 have r0 : (op == 0) = false := by simpa using (show op ≠ 0 by omega)
 have r84 : (op == 84) = false := by simpa using (show op ≠ 84 by omega)
 have r85 : (op == 85) = false := by simpa using (show op ≠ 85 by omega)
 have r86 : (op == 86) = false := by simpa using (show op ≠ 86 by omega)
 have r87 : (op == 87) = false := by simpa using (show op ≠ 87 by omega)
 have r80 : (op == 80) = false := by simpa using (show op ≠ 80 by omega)
 have r81 : (op == 81) = false := by simpa using (show op ≠ 81 by omega)
 have r82 : (op == 82) = false := by simpa using (show op ≠ 82 by omega)
 have r83 : (op == 83) = false := by simpa using (show op ≠ 83 by omega)
 have r146 : (op == 146) = false := by simpa using (show op ≠ 146 by omega)
 have r147 : (op == 147) = false := by simpa using (show op ≠ 147 by omega)
 have r150 : (op == 150) = false := by simpa using (show op ≠ 150 by omega)
 have r88 : (op == 88) = false := by simpa using (show op ≠ 88 by omega)
 have r89 : (op == 89) = false := by simpa using (show op ≠ 89 by omega)
 have r90 : (op == 90) = false := by simpa using (show op ≠ 90 by omega)
 have r91 : (op == 91) = false := by simpa using (show op ≠ 91 by omega)
 have r16 : (op == 16) = false := by simpa using (show op ≠ 16 by omega)
 have r17 : (op == 17) = false := by simpa using (show op ≠ 17 by omega)
 have r20 : (op == 20) = false := by simpa using (show op ≠ 20 by omega)
 have r5 : (op == 5) = false := by simpa using (show op ≠ 5 by omega)
 have r21 : (op == 21) = false := by simpa using (show op ≠ 21 by omega)
 have r160 : (op == 160) = false := by simpa using (show op ≠ 160 by omega)
 have r161 : (op == 161) = false := by simpa using (show op ≠ 161 by omega)
 have r162 : (op == 162) = false := by simpa using (show op ≠ 162 by omega)
 have r163 : (op == 163) = false := by simpa using (show op ≠ 163 by omega)
 have r128 : (op == 128) = false := by simpa using (show op ≠ 128 by omega)
 have r129 : (op == 129) = false := by simpa using (show op ≠ 129 by omega)
 have r130 : (op == 130) = false := by simpa using (show op ≠ 130 by omega)
 have r131 : (op == 131) = false := by simpa using (show op ≠ 131 by omega)
 have r132 : (op == 132) = false := by simpa using (show op ≠ 132 by omega)
 have r1 : (op == 1) = false := by simpa using (show op ≠ 1 by omega)
 have r133 : (op == 133) = false := by simpa using (show op ≠ 133 by omega)
 have r134 : (op == 134) = false := by simpa using (show op ≠ 134 by omega)
 have r2 : (op == 2) = false := by simpa using (show op ≠ 2 by omega)
 have r144 : (op == 144) = false := by simpa using (show op ≠ 144 by omega)
 have r145 : (op == 145) = false := by simpa using (show op ≠ 145 by omega)
 have r4 : (op == 4) = false := by simpa using (show op ≠ 4 by omega)
 have r3 : (op == 3) = false := by simpa using (show op ≠ 3 by omega)
 clear h hr hm hz HE
 go_enter Tryz.func63, Tryz.ntmps63
 go_wp2_with fail
 refine HC.out.mono ?_
 rintro e w1 hp
 cases r with
 | ok S' =>
  obtain ⟨rfl, hp⟩ := hp
  have HP := Lib.hid hp
  clear hp
  go_wp2_with fail
  go_end0
  exact PostO.pre (R := .ok S') ⟨rfl, HP.out⟩ HG.out
 | tr t x =>
  obtain ⟨rfl, hp⟩ := hp
  have HP := Lib.hid hp
  clear hp
  go_wp2_with fail
  exact ⟨rfl, PostO.pre (R := .tr t x) ⟨rfl, HP.out⟩ HG.out⟩

theorem exe_reg (E : Env) (ov : Value) (S : Ms) (op : Int) (k j : Nat) (im ax bk sz : Int) (w : World) (h : Mc E ov S w) (hz : Opz E) (hd : k < 8) (hj : j < 8) (hm : U16 im) (ho : (18 ≤ op ∧ op ≤ 19) ∨ (32 ≤ op ∧ op ≤ 46)) :
  Calls Tryz.prog 63 #[.pointer (some ⟨E.b, 0, none⟩), .agg #[.int .i64 op, .int .i64 (k : Int), .int .i64 (j : Int), .int .u16 im, .int .u16 ax, .int .i64 bk, .int .i64 sz]] w fun e w' => PostO E ov S w (exP E.I E.T ⟨op, k, (j : Int), im, ax, bk, sz⟩ S) e w' := by
 obtain ⟨n0, n1, n2, n3, n4, n5, n6⟩ := ins_new w op k (j : Int) im ax bk sz
 have H := Lib.hid (h.alloc (.cells #[.int .i64 op, .int .i64 (k : Int), .int .i64 (j : Int), .int .u16 im, .int .u16 ax, .int .i64 bk, .int .i64 sz] 58))
 have HG := Lib.hid (gb_alloc (gb_refl w (some E.b)) (.cells #[.int .i64 op, .int .i64 (k : Int), .int .i64 (j : Int), .int .u16 im, .int .u16 ax, .int .i64 bk, .int .i64 sz] 58))
 have HE := Lib.hid (show exP E.I E.T ⟨op, k, (j : Int), im, ax, bk, sz⟩ S = arP S op k (S.r j) by
  unfold exP
  simp only
  rw [if_neg (by omega), if_neg (by omega), if_neg (by omega), if_neg (by omega), if_neg (by omega), if_neg (by omega), if_neg (by omega), if_neg (by omega), if_neg (by omega), if_neg (by omega), if_neg (by omega), if_neg (by omega), if_neg (by omega), if_neg (by omega), if_neg (by omega), if_neg (by omega), if_neg (by omega), if_neg (by omega), if_neg (by omega), if_neg (by omega), if_neg (by omega), if_neg (by omega), if_neg (by omega), if_neg (by omega), if_neg (by omega), if_neg (by omega), if_neg (by omega), if_neg (by omega), if_neg (by omega), if_neg (by omega), if_neg (by omega)]
  try rfl)
 have HC := Lib.hid ((calc_reg E ov S op k j im ax bk sz _ H.out hz hd hj ho).mono fun e w' hp => (show PostO E ov S (w.alloc (.cells #[.int .i64 op, .int .i64 (k : Int), .int .i64 (j : Int), .int .u16 im, .int .u16 ax, .int .i64 bk, .int .i64 sz] 58)) (exP E.I E.T ⟨op, k, (j : Int), im, ax, bk, sz⟩ S) e w' from HE.out ▸ PostO.of hp))
 obtain ⟨r, hr⟩ : ∃ r, exP E.I E.T ⟨op, k, (j : Int), im, ax, bk, sz⟩ S = r := ⟨_, rfl⟩
 rw [hr] at HC ⊢
 have r0 : (op == 0) = false := by simpa using (show op ≠ 0 by omega)
 have r84 : (op == 84) = false := by simpa using (show op ≠ 84 by omega)
 have r85 : (op == 85) = false := by simpa using (show op ≠ 85 by omega)
 have r86 : (op == 86) = false := by simpa using (show op ≠ 86 by omega)
 have r87 : (op == 87) = false := by simpa using (show op ≠ 87 by omega)
 have r80 : (op == 80) = false := by simpa using (show op ≠ 80 by omega)
 have r81 : (op == 81) = false := by simpa using (show op ≠ 81 by omega)
 have r82 : (op == 82) = false := by simpa using (show op ≠ 82 by omega)
 have r83 : (op == 83) = false := by simpa using (show op ≠ 83 by omega)
 have r146 : (op == 146) = false := by simpa using (show op ≠ 146 by omega)
 have r147 : (op == 147) = false := by simpa using (show op ≠ 147 by omega)
 have r150 : (op == 150) = false := by simpa using (show op ≠ 150 by omega)
 have r88 : (op == 88) = false := by simpa using (show op ≠ 88 by omega)
 have r89 : (op == 89) = false := by simpa using (show op ≠ 89 by omega)
 have r90 : (op == 90) = false := by simpa using (show op ≠ 90 by omega)
 have r91 : (op == 91) = false := by simpa using (show op ≠ 91 by omega)
 have r16 : (op == 16) = false := by simpa using (show op ≠ 16 by omega)
 have r17 : (op == 17) = false := by simpa using (show op ≠ 17 by omega)
 have r20 : (op == 20) = false := by simpa using (show op ≠ 20 by omega)
 have r5 : (op == 5) = false := by simpa using (show op ≠ 5 by omega)
 have r21 : (op == 21) = false := by simpa using (show op ≠ 21 by omega)
 have r160 : (op == 160) = false := by simpa using (show op ≠ 160 by omega)
 have r161 : (op == 161) = false := by simpa using (show op ≠ 161 by omega)
 have r162 : (op == 162) = false := by simpa using (show op ≠ 162 by omega)
 have r163 : (op == 163) = false := by simpa using (show op ≠ 163 by omega)
 have r128 : (op == 128) = false := by simpa using (show op ≠ 128 by omega)
 have r129 : (op == 129) = false := by simpa using (show op ≠ 129 by omega)
 have r130 : (op == 130) = false := by simpa using (show op ≠ 130 by omega)
 have r131 : (op == 131) = false := by simpa using (show op ≠ 131 by omega)
 have r132 : (op == 132) = false := by simpa using (show op ≠ 132 by omega)
 have r1 : (op == 1) = false := by simpa using (show op ≠ 1 by omega)
 have r133 : (op == 133) = false := by simpa using (show op ≠ 133 by omega)
 have r134 : (op == 134) = false := by simpa using (show op ≠ 134 by omega)
 have r2 : (op == 2) = false := by simpa using (show op ≠ 2 by omega)
 have r144 : (op == 144) = false := by simpa using (show op ≠ 144 by omega)
 have r145 : (op == 145) = false := by simpa using (show op ≠ 145 by omega)
 have r4 : (op == 4) = false := by simpa using (show op ≠ 4 by omega)
 have r3 : (op == 3) = false := by simpa using (show op ≠ 3 by omega)
 clear h hr hm hz HE
 go_enter Tryz.func63, Tryz.ntmps63
 go_wp2_with fail
 refine HC.out.mono ?_
 rintro e w1 hp
 cases r with
 | ok S' =>
  obtain ⟨rfl, hp⟩ := hp
  have HP := Lib.hid hp
  clear hp
  go_wp2_with fail
  go_end0
  exact PostO.pre (R := .ok S') ⟨rfl, HP.out⟩ HG.out
 | tr t x =>
  obtain ⟨rfl, hp⟩ := hp
  have HP := Lib.hid hp
  clear hp
  go_wp2_with fail
  exact ⟨rfl, PostO.pre (R := .tr t x) ⟨rfl, HP.out⟩ HG.out⟩

theorem exe_imm (E : Env) (ov : Value) (S : Ms) (op : Int) (k j : Nat) (im ax bk sz : Int) (w : World) (h : Mc E ov S w) (hz : Opz E) (hd : k < 8) (hj : j < 8) (hm : U16 im) (ho : (48 ≤ op ∧ op ≤ 62) ∨ (64 ≤ op ∧ op ≤ 78)) :
  Calls Tryz.prog 63 #[.pointer (some ⟨E.b, 0, none⟩), .agg #[.int .i64 op, .int .i64 (k : Int), .int .i64 (j : Int), .int .u16 im, .int .u16 ax, .int .i64 bk, .int .i64 sz]] w fun e w' => PostO E ov S w (exP E.I E.T ⟨op, k, (j : Int), im, ax, bk, sz⟩ S) e w' := by
 obtain ⟨n0, n1, n2, n3, n4, n5, n6⟩ := ins_new w op k (j : Int) im ax bk sz
 have H := Lib.hid (h.alloc (.cells #[.int .i64 op, .int .i64 (k : Int), .int .i64 (j : Int), .int .u16 im, .int .u16 ax, .int .i64 bk, .int .i64 sz] 58))
 have HG := Lib.hid (gb_alloc (gb_refl w (some E.b)) (.cells #[.int .i64 op, .int .i64 (k : Int), .int .i64 (j : Int), .int .u16 im, .int .u16 ax, .int .i64 bk, .int .i64 sz] 58))
 have HE := Lib.hid (show exP E.I E.T ⟨op, k, (j : Int), im, ax, bk, sz⟩ S = arP S (32 + op % 16) k im by
  unfold exP
  simp only
  rw [if_neg (by omega), if_neg (by omega), if_neg (by omega), if_neg (by omega), if_neg (by omega), if_neg (by omega), if_neg (by omega), if_neg (by omega), if_neg (by omega), if_neg (by omega), if_neg (by omega), if_neg (by omega), if_neg (by omega), if_neg (by omega), if_neg (by omega), if_neg (by omega), if_neg (by omega), if_neg (by omega), if_neg (by omega), if_neg (by omega), if_neg (by omega), if_neg (by omega), if_neg (by omega), if_neg (by omega), if_neg (by omega), if_neg (by omega), if_neg (by omega), if_neg (by omega), if_neg (by omega), if_neg (by omega), if_pos (by omega)]
  try rfl)
 have HC := Lib.hid ((calc_imm E ov S op k j im ax bk sz _ H.out hz hd hj hm ho).mono fun e w' hp => (show PostO E ov S (w.alloc (.cells #[.int .i64 op, .int .i64 (k : Int), .int .i64 (j : Int), .int .u16 im, .int .u16 ax, .int .i64 bk, .int .i64 sz] 58)) (exP E.I E.T ⟨op, k, (j : Int), im, ax, bk, sz⟩ S) e w' from HE.out ▸ PostO.of hp))
 obtain ⟨r, hr⟩ : ∃ r, exP E.I E.T ⟨op, k, (j : Int), im, ax, bk, sz⟩ S = r := ⟨_, rfl⟩
 rw [hr] at HC ⊢
 have r0 : (op == 0) = false := by simpa using (show op ≠ 0 by omega)
 have r84 : (op == 84) = false := by simpa using (show op ≠ 84 by omega)
 have r85 : (op == 85) = false := by simpa using (show op ≠ 85 by omega)
 have r86 : (op == 86) = false := by simpa using (show op ≠ 86 by omega)
 have r87 : (op == 87) = false := by simpa using (show op ≠ 87 by omega)
 have r80 : (op == 80) = false := by simpa using (show op ≠ 80 by omega)
 have r81 : (op == 81) = false := by simpa using (show op ≠ 81 by omega)
 have r82 : (op == 82) = false := by simpa using (show op ≠ 82 by omega)
 have r83 : (op == 83) = false := by simpa using (show op ≠ 83 by omega)
 have r146 : (op == 146) = false := by simpa using (show op ≠ 146 by omega)
 have r147 : (op == 147) = false := by simpa using (show op ≠ 147 by omega)
 have r150 : (op == 150) = false := by simpa using (show op ≠ 150 by omega)
 have r88 : (op == 88) = false := by simpa using (show op ≠ 88 by omega)
 have r89 : (op == 89) = false := by simpa using (show op ≠ 89 by omega)
 have r90 : (op == 90) = false := by simpa using (show op ≠ 90 by omega)
 have r91 : (op == 91) = false := by simpa using (show op ≠ 91 by omega)
 have r16 : (op == 16) = false := by simpa using (show op ≠ 16 by omega)
 have r17 : (op == 17) = false := by simpa using (show op ≠ 17 by omega)
 have r20 : (op == 20) = false := by simpa using (show op ≠ 20 by omega)
 have r5 : (op == 5) = false := by simpa using (show op ≠ 5 by omega)
 have r21 : (op == 21) = false := by simpa using (show op ≠ 21 by omega)
 have r160 : (op == 160) = false := by simpa using (show op ≠ 160 by omega)
 have r161 : (op == 161) = false := by simpa using (show op ≠ 161 by omega)
 have r162 : (op == 162) = false := by simpa using (show op ≠ 162 by omega)
 have r163 : (op == 163) = false := by simpa using (show op ≠ 163 by omega)
 have r128 : (op == 128) = false := by simpa using (show op ≠ 128 by omega)
 have r129 : (op == 129) = false := by simpa using (show op ≠ 129 by omega)
 have r130 : (op == 130) = false := by simpa using (show op ≠ 130 by omega)
 have r131 : (op == 131) = false := by simpa using (show op ≠ 131 by omega)
 have r132 : (op == 132) = false := by simpa using (show op ≠ 132 by omega)
 have r1 : (op == 1) = false := by simpa using (show op ≠ 1 by omega)
 have r133 : (op == 133) = false := by simpa using (show op ≠ 133 by omega)
 have r134 : (op == 134) = false := by simpa using (show op ≠ 134 by omega)
 have r2 : (op == 2) = false := by simpa using (show op ≠ 2 by omega)
 have r144 : (op == 144) = false := by simpa using (show op ≠ 144 by omega)
 have r145 : (op == 145) = false := by simpa using (show op ≠ 145 by omega)
 have r4 : (op == 4) = false := by simpa using (show op ≠ 4 by omega)
 have r3 : (op == 3) = false := by simpa using (show op ≠ 3 by omega)
 clear h hr hm hz HE
 go_enter Tryz.func63, Tryz.ntmps63
 go_wp2_with fail
 refine HC.out.mono ?_
 rintro e w1 hp
 cases r with
 | ok S' =>
  obtain ⟨rfl, hp⟩ := hp
  have HP := Lib.hid hp
  clear hp
  go_wp2_with fail
  go_end0
  exact PostO.pre (R := .ok S') ⟨rfl, HP.out⟩ HG.out
 | tr t x =>
  obtain ⟨rfl, hp⟩ := hp
  have HP := Lib.hid hp
  clear hp
  go_wp2_with fail
  exact ⟨rfl, PostO.pre (R := .tr t x) ⟨rfl, HP.out⟩ HG.out⟩
end Go.Proofs.YthkcloapiefggaaGreatDoor
