import Derived.Test.YthkcloapiefggaaGreatDoorQRqt
import Derived.Test.YthkcloapiefggaaGreatDoorQBax
import Derived.Test.YthkcloapiefggaaGreatDoorQCal
import Derived.Deep.RegionWith
namespace Go.Proofs.YthkcloapiefggaaGreatDoor
set_option linter.unusedVariables false
set_option linter.unusedSimpArgs false
set_option maxRecDepth 100000
set_option maxHeartbeats 1000000
open Go.ChangeShapes Go.WideShapes Go.RowKit
section
variable {E:Qe} {sv ov:Value} {S S0:Ms} {d:Nat} {k i:Int} {w:World}
theorem Ii(f:Nat→Int)(k:Nat):upd f k (f k)=f:=by
 funext j
 unfold upd
 split
 ·rename_i h;rw[h]
 ·rfl
set_option maxHeartbeats 4000000 in
theorem lD(op:Int)(k:Nat)(b:Int)(h:Mq E sv ov S d 0 0 w)(hk:k < 8)(hb:U16 b)(ho:32≤op∧op≤46):
  Calls Tryz.prog 69 #[.pointer (some ⟨E.b,0,none⟩),.int .i64 op,.int .i64 (k:Int),.int .u16 b] w (WvE E sv ov S d w (arP S op k b)):=by
 have hk8:(k:Int) < 8:=by omega
 have cR:=h.cR k hk;have c18:=h.at 18 (.int .u16 S.f) rfl;have hfz:=h.frz;have hc:=Eu S.f h.ok.f.1 h.ok.f.2;by_cases hz:op=43∧b=0
 ·obtain⟨rfl,rfl⟩:=hz
  have HF:=Nc (dG 4 0 h);have e:arP S 43 k 0= .tr 4 0:=by unfold arP;rw[if_pos ⟨rfl,rfl⟩]
  rw[e];obtain⟨a0,a1⟩:=h.ok.r k hk;obtain⟨f0,f1⟩:=h.ok.f;clear h e ho hb;go_enter Tryz.func69,Tryz.ntmps69
  go_wp2_with fail
  refine HF.out.mono ?_;rintro e w' ⟨rfl,hm,hf⟩;have HX:=Nc (And.intro hm hf);clear hm hf;go_wp2_with fail
  refine bodyPost_ret (results_none rfl _ _ _) rfl ?_;exact⟨rfl,HX.out.1,HX.out.2⟩
 have hB:=arB (h.ok.r k hk) hb h.ok.f (.inr ho) hz;have e:arP S op k b= .ok {aZ S k (arR op (S.r k) b S.f) with f:=arF op (S.r k) b S.f}:=by
  unfold arP;rw[if_neg hz];rfl
 rw[e];have HX:=Nc (And.intro ((h.oL _ hB.2).aZ k hk _ hB.1) (((Frq.refl E sv ov w).set 18 (.int .u16 (arF op (S.r k) b S.f))).set (7+k) (.int .u16 (arR op (S.r k) b S.f))));have HM:=Nc (fun (h32:op=32)=>And.intro (show Mq E sv ov {aZ S k (arR op (S.r k) b S.f) with f:=arF op (S.r k) b S.f} d 0 0 (w.setCell ⟨E.b,7+k,none⟩ (.int .u16 b)) by subst h32;exact h.aZ k hk b hb) ((Frq.refl E sv ov w).set (7+k) (.int .u16 b)));have HY:=Nc (And.intro (show Mq E sv ov {aZ S k (S.r k) with f:=arF op (S.r k) b S.f} d 0 0 (w.setCell ⟨E.b,18,none⟩ (.int .u16 (arF op (S.r k) b S.f))) by
  have h2:=h.oL _ hB.2;have e2:aZ S k (S.r k)=S:=by unfold aZ;rw[show((k:Int)).toNat=k from rfl,Ii]
  rw[e2];exact h2) ((Frq.refl E sv ov w).set 18 (.int .u16 (arF op (S.r k) b S.f))))
 have HZ:=Nc hz;obtain⟨a0,a1⟩:=h.ok.r k hk;obtain⟨f0,f1⟩:=h.ok.f;obtain⟨b0,b1⟩:=hb;obtain⟨f,hf⟩:∃ f,S.f=f:=⟨_,rfl⟩;obtain⟨a,ha⟩:∃ a,S.r k=a:=⟨_,rfl⟩;rw[hf] at c18 hc HX HY HM f0 f1⊢;rw[ha] at cR HX HY HM a0 a1⊢;have hcp:IntKind.u16.wrap (a*b)=a*b%65536:=IntKind.wrap_u16 _;clear h e hk hf ha hB hz
 rcases(show op=32∨(op=33∨op=34)∨(op=35∨op=36)∨op=40∨op=37∨op=41∨op=38∨op=39∨op=42∨op=43∨(op=44∨op=45∨op=46) by omega) with rfl|ho|ho|rfl|rfl|rfl|rfl|rfl|rfl|rfl|ho
 ·go_enter Tryz.func69,Tryz.ntmps69
  go_wp2_with fail
  refine bodyPost_ret (results_none rfl _ _ _) rfl ?_;exact⟨rfl,(HM.out trivial).1,(HM.out trivial).2⟩
 ·rcases ho with rfl|rfl
  all_goals
   go_enter Tryz.func69,Tryz.ntmps69
   go_wp2_with fail
   refine(BO a b _ _ a0 a1 b0 b1).mono ?_;rintro e w' ⟨rfl,rfl⟩;go_wp2_with fail
   go_end0
   exact⟨rfl,HX.out.1,HX.out.2⟩
 ·rcases ho with rfl|rfl
  all_goals
   go_enter Tryz.func69,Tryz.ntmps69
   go_wp2_with fail
   refine(pW a b _ _ a0 a1 b0 b1).mono ?_;rintro e w' ⟨rfl,rfl⟩;go_wp2_with fail
   go_end0
   exact⟨rfl,HX.out.1,HX.out.2⟩
 ·go_enter Tryz.func69,Tryz.ntmps69
  go_wp2_with fail
  refine(pW a b _ _ a0 a1 b0 b1).mono ?_;rintro e w' ⟨rfl,rfl⟩;go_wp2_with fail
  go_end0
  exact⟨rfl,HY.out.1,HY.out.2⟩
 ·obtain⟨x0,x1⟩:=uJ a b
  go_enter Tryz.func69,Tryz.ntmps69
  go_wp2_with fail
  refine(gQ f _ _ f0 f1 x0 x1).mono ?_;rintro e w' ⟨rfl,rfl⟩;go_wp2_with fail
  go_end0
  exact⟨rfl,HX.out.1,HX.out.2⟩
 ·obtain⟨x0,x1⟩:=uJ a b
  go_enter Tryz.func69,Tryz.ntmps69
  go_wp2_with fail
  refine(gQ f _ _ f0 f1 x0 x1).mono ?_;rintro e w' ⟨rfl,rfl⟩;go_wp2_with fail
  go_end0
  exact⟨rfl,HY.out.1,HY.out.2⟩
 ·obtain⟨x0,x1⟩:=CQ a b
  go_enter Tryz.func69,Tryz.ntmps69
  go_wp2_with fail
  refine(gQ f _ _ f0 f1 x0 x1).mono ?_;rintro e w' ⟨rfl,rfl⟩;go_wp2_with fail
  go_end0
  exact⟨rfl,HX.out.1,HX.out.2⟩
 ·obtain⟨x0,x1⟩:=wS a b
  go_enter Tryz.func69,Tryz.ntmps69
  go_wp2_with fail
  refine(gQ f _ _ f0 f1 x0 x1).mono ?_;rintro e w' ⟨rfl,rfl⟩;go_wp2_with fail
  go_end0
  exact⟨rfl,HX.out.1,HX.out.2⟩
 ·obtain⟨x0,x1⟩:=dU (a*b)
  go_enter Tryz.func69,Tryz.ntmps69
  go_wp2_with fail
  refine(gQ f _ _ f0 f1 x0 x1).mono ?_;rintro e w' ⟨rfl,rfl⟩;go_wp2_with fail
  go_end0
  exact⟨rfl,HX.out.1,HX.out.2⟩
 ·have hb0:¬ b=0:=fun c=>HZ.out ⟨rfl,c⟩
  have hb1:(b==0)=false:=by simpa using hb0
  have x0:0≤a/b:=Int.ediv_nonneg a0 b0;have x1:a/b < 65536:=Int.lt_of_le_of_lt (Int.ediv_le_self _ a0) a1;have ht:a.tdiv b=a/b:=Int.tdiv_eq_ediv_of_nonneg a0;have hw:IntKind.u16.wrap (a/b)=a/b:=by rw[IntKind.wrap_u16];omega
  go_enter Tryz.func69,Tryz.ntmps69
  go_wp2_with fail
  refine(gQ f _ _ f0 f1 x0 x1).mono ?_;rintro e w' ⟨rfl,rfl⟩;go_wp2_with fail
  go_end0
  exact⟨rfl,HX.out.1,HX.out.2⟩
 ·rcases ho with rfl|rfl|rfl
  all_goals
   go_enter Tryz.func69,Tryz.ntmps69
   go_wp2_with fail
   refine(xg _ a b _ a0 a1 b0 b1).mono ?_;rintro e w' ⟨rfl,rfl⟩;obtain⟨x0,x1⟩:=lw 0 a (b%16) a0 a1;obtain⟨y0,y1⟩:=lw 1 a (b%16) a0 a1;obtain⟨z0,z1⟩:=lw 2 a (b%16) a0 a1;go_wp2_with fail
   refine(gQ f _ _ f0 f1 (by assumption) (by assumption)).mono ?_;rintro e w' ⟨rfl,rfl⟩;go_wp2_with fail
   go_end0
   exact⟨rfl,HX.out.1,HX.out.2⟩
end

section
variable {E:Qe} {sv ov:Value} {S S0:Ms} {d:Nat} {k i:Int} {w:World}
set_option maxHeartbeats 4000000 in
theorem vP(op:Int)(k:Nat)(h:Mq E sv ov S d 0 0 w)(hk:k < 8)(ho:op=18∨op=19):
  Calls Tryz.prog 68 #[.pointer (some ⟨E.b,0,none⟩),.int .i64 op,.int .i64 (k:Int)] w (WvE E sv ov S d w (arP S op k (S.r k))):=by
 have hk8:(k:Int) < 8:=by omega
 have cR:=h.cR k hk;have c18:=h.at 18 (.int .u16 S.f) rfl;have hfz:=h.frz;have hB:=arB (op:=op) (h.ok.r k hk) (h.ok.r k hk) h.ok.f (by omega) (by omega);have e:arP S op k (S.r k)= .ok {aZ S k (arR op (S.r k) (S.r k) S.f) with f:=arF op (S.r k) (S.r k) S.f}:=by
  unfold arP;rw[if_neg (by omega)];rfl
 rw[e];have HX:=Nc (And.intro ((h.aZ k hk _ hB.1).oL _ hB.2) (((Frq.refl E sv ov w).set (7+k) (.int .u16 (arR op (S.r k) (S.r k) S.f))).set 18 (.int .u16 (arF op (S.r k) (S.r k) S.f))));have HX2:=Nc ((h.aZ k hk _ hB.1).drew);obtain⟨a0,a1⟩:=h.ok.r k hk;obtain⟨f0,f1⟩:=h.ok.f;obtain⟨f,hf⟩:∃ f,S.f=f:=⟨_,rfl⟩;obtain⟨a,ha⟩:∃ a,S.r k=a:=⟨_,rfl⟩;rw[hf] at c18 HX f0 f1 HX2⊢;rw[ha] at cR HX HX2 a0 a1⊢;clear h e hk hf ha hB;rcases ho with rfl|rfl
 ·go_enter Tryz.func68,Tryz.ntmps68
  go_wp2_with fail
  go_region_with ((go_at_call 49);(refine(pW 0 a true _ (by decide) (by decide) a0 a1).mono ?_);rintro e w' ⟨rfl,rfl⟩)
  all_goals
   go_wp2_with fail
   refine bodyPost_ret (results_none rfl _ _ _) rfl ?_;exact⟨rfl,HX.out.1.drew,HX.out.2.drew⟩
 ·have hn:(65535:Int)-a < 65536:=by omega
  have hn0:0≤(65535:Int)-a:=by omega
  go_enter Tryz.func68,Tryz.ntmps68
  go_wp2_with fail
  go_region
  go_wp2_with fail
  go_region_with ((go_at_call 50);(refine(gQ f _ _ f0 f1 hn0 hn).mono ?_);rintro e w' ⟨rfl,rfl⟩)
  all_goals
   go_wp2_with fail
   go_end0
   exact⟨rfl,HX.out.1.drew.drew,HX.out.2.drew.drew⟩
end
end Go.Proofs.YthkcloapiefggaaGreatDoor
