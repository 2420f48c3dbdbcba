import Derived.Test.YthkcloapiefggaaGreatDoorQArx
import Derived.Test.YthkcloapiefggaaGreatDoorQOut
namespace Go.Proofs.YthkcloapiefggaaGreatDoor
set_option linter.unusedVariables false
set_option linter.unusedSimpArgs false
set_option maxRecDepth 100000
set_option maxHeartbeats 1000000
open Go.ChangeShapes Go.WideShapes Go.RowKit
def Opz(E:Env):Prop:=∃ D F,Ops E.w0 E.w1 E.mp D F E.lo E.hi
theorem qI(op:Int)(w:World):Calls Tryz.prog 156 #[.int .i64 op] w fun e w'=>e= .returned (.bool (decide (46 < op)))∧w=w':=by
 go_enter Tryz.func156,Tryz.ntmps156
 go_wp2_with fail
 go_ret
 exact⟨rfl,rfl⟩
theorem yU{E:Env}(h:Opz E)(op:Int)(ho:(18≤op∧op≤19)∨(32≤op∧op≤46)):∃ fn caps,Good E.w1 E.lo E.hi op (.func (.func fn) #[] caps)∧
  ∀ w:World,w.heap[E.mp]? =E.w1.heap[E.mp]? →(Instr.lookup 112 (.map (some E.mp)) (.int .i64 op) false).run Tryz.prog w= .ok (.func (.func fn) #[] caps) w:=by
 obtain⟨D,F,hO⟩:=h;have hg:=hO.good op ho;obtain⟨fn,caps,hv,hf,hc⟩:=hg;refine⟨fn,caps,⟨fn,caps,rfl,hf,hc⟩,fun w hw=>?_⟩;obtain⟨es,clock,hb,hF,hs,hD⟩:=hO.own;have hown:w.ownsMap Tryz.prog 3 bM E.mp 17 D:=⟨es,clock,hw.trans hb,hF,hs,hD⟩;have hz:(zeroValue 139).run Tryz.prog w= .ok (.nilFunc) w:=by kernel_rfl
 obtain⟨v,ps,hr,hv2⟩:=hown.lookup jR Tryz.underlying112 hz (zd:= .held .nilFunc) (zp:=[]) rfl (key:= .int .i64 op) (kl:= .int .i64 op) (Maps.keyOf_int_mk Tryz.underlying3 (WalkArith.wf_i64 (by omega)));rw[hO.at_ op ho] at hv2;have:v=F op:=by
  unfold bM at hv2;simp only[Option.some.injEq,Prod.mk.injEq] at hv2;exact DataW.held.inj hv2.1
 rw[hr,this,hv]
theorem uy(r:Int):0≤half r∧half r≤2:=by unfold half;(repeat' split)<;>omega
theorem arB{op a b f:Int}(ha:U16 a)(hb:U16 b)(hf:U16 f)(ho:(18≤op∧op≤19)∨(32≤op∧op≤46))(hz:¬ (op=43∧b=0)):U16 (arR op a b f)∧U16 (arF op a b f):=by
 have hw:∀ x,U16 (iD f x):=fun x=>by have:=uy x;have h0:=hf.1;unfold iD;exact⟨by omega,by omega⟩
 have hfa:∀ x y c,U16 (qZ x y c):=fun x y c=>by have:=uy (ou x y c);unfold qZ ovf;constructor<;>((repeat' split)<;>omega)
 have hfs:∀ x y c,U16 (oK x y c):=fun x y c=>by have:=uy (oJ x y c);unfold oK ovf;constructor<;>((repeat' split)<;>omega)
 have hs:∀ k,U16 (shV k a (b%16)):=fun k=>lw k a _ ha.1 ha.2
 rcases(show op=32∨op=33∨op=34∨op=35∨op=36∨op=37∨op=38∨op=39∨op=40∨op=41∨op=42∨op=43∨op=44∨op=45∨op=46∨op=18∨op=19 by omega) with rfl|rfl|rfl|rfl|rfl|rfl|rfl|rfl|rfl|rfl|rfl|rfl|rfl|rfl|rfl|rfl|rfl
 ·exact⟨hb,hf⟩
 ·exact⟨dU _,hfa _ _ _⟩
 ·exact⟨dU _,hfa _ _ _⟩
 ·exact⟨dU _,hfs _ _ _⟩
 ·exact⟨dU _,hfs _ _ _⟩
 ·exact⟨uJ _ _,hw _⟩
 ·exact⟨CQ _ _,hw _⟩
 ·exact⟨wS _ _,hw _⟩
 ·exact⟨ha,hfs _ _ _⟩
 ·exact⟨ha,hw _⟩
 ·exact⟨dU _,hw _⟩
 ·have h1:=Int.ediv_le_self b ha.1
  have h2:=Int.ediv_nonneg ha.1 hb.1;have h3:=ha.2;exact⟨show U16 (a/b) from⟨h2,by omega⟩,hw _⟩
 ·exact⟨hs 0,hw _⟩
 ·exact⟨hs 1,hw _⟩
 ·exact⟨hs 2,hw _⟩
 ·exact⟨dU _,hfs _ _ _⟩
 ·have h1:=ha.1
  have h2:=ha.2;exact⟨show U16 (65535-a) from⟨by omega,by omega⟩,hw _⟩
theorem Mc.mJ{E:Env}{ov:Value}{S:Ms}{w:World}(h:Mc E ov S w):w.heap[E.mp]? =E.w1.heap[E.mp]? :=h.mid _ h.env.mp0 h.env.mp1
theorem Ei(E:Env)(ov:Value)(S:Ms)(op:Int)(k j:Nat)(im ax bk sz:Int)(w:World)(h:Mc E ov S w)(hz:Opz E)(hd:k < 8)(hj:j < 8)(ho:(18≤op∧op≤19)∨(32≤op∧op≤46)):
  Calls Tryz.prog 114 #[.pointer (some ⟨E.b,0,none⟩),.agg #[.int .i64 op,.int .i64 (k:Int),.int .i64 (j:Int),.int .u16 im,.int .u16 ax,.int .i64 bk,.int .i64 sz]] w fun e w'=>Post E ov S w (arP S op k (S.r j)) e w':=by
 have hlt:=h.lt;have hne:E.b≠w.heap.size:=by omega
 have hk8:(k:Int) < 8:=by omega
 have hj8:(j:Int) < 8:=by omega
 have HI:=Nc (aG w op k j im ax bk sz);have H1:=h.alloc (.cells #[.int .i64 op,.int .i64 (k:Int),.int .i64 (j:Int),.int .u16 im,.int .u16 ax,.int .i64 bk,.int .i64 sz] 58);have HG:=Nc (aJ (ah w (some E.b)) (.cells #[.int .i64 op,.int .i64 (k:Int),.int .i64 (j:Int),.int .u16 im,.int .u16 ax,.int .i64 bk,.int .i64 sz] 58));have HOK:=Nc h.ok;obtain⟨n0,n1,n2,n3,n4,n5,n6⟩:=HI.out;have cj:=H1.cR j hj;have H:=Nc H1;obtain⟨fn,caps,hgood,hlk⟩:=yU hz op ho;obtain⟨fn',caps',hv',hcf',hgood'⟩:=hgood;injection hv' with hv1 hv2 hv3;injection hv1 with hv1;subst hv1;subst hv3;have HGo:=Nc hgood';have hcf:=Nc hcf';obtain⟨bv,hbv⟩:∃ bv,S.r j=bv:=⟨_,rfl⟩;rw[hbv] at cj⊢;have HBv:=Nc (hbv▸h.ok.r j hj);have dq:decide (46 < op)=false:=by simp;omega
 have HO:=Nc ho;have HR:=Nc (show arP S op k bv=if op=43∧bv=0 then .tr 4 0 else .ok {aZ S k (arR op (S.r k) bv S.f) with f:=arF op (S.r k) bv S.f} by
  unfold arP;rw[show((k:Int)).toNat=k by omega])
 obtain⟨R,hR⟩:∃ R,arP S op k bv=R:=⟨_,rfl⟩;rw[hR] at HR⊢;clear h H1 hgood' hcf' hbv hz hR;go_enter Tryz.func114,Tryz.ntmps114
 go_wp2_with fail
 go_region
 go_wp2_with fail
 refine(qI op _).mono ?_;rintro e wz ⟨rfl,rfl⟩;go_wp2_with fail
 obtain⟨Wd,hWd⟩:∃ Wd,(w.alloc (.cells #[.int .i64 op,.int .i64 (k:Int),.int .i64 (j:Int),.int .u16 im,.int .u16 ax,.int .i64 bk,.int .i64 sz] 58)).drew=Wd:=⟨_,rfl⟩;have HWd:=Nc (hWd▸H.out.drew);have HGd:=Nc (hWd▸aO HG.out);have hnD:Wd.cell? ⟨w.heap.size,1,none⟩=some (.int .i64 (k:Int)):=hWd▸n1;have HnD:=Nc hnD;rw[hWd];obtain⟨n,hn⟩:∃ n,w.heap.size=n:=⟨_,rfl⟩;rw[hn] at HnD hnD hne⊢;have hS1:=Nc (And.intro hnD (And.intro HWd.out.mZ HWd.out.mJ));have ck:=HWd.out.cR k hd;have c18:=HWd.out.c18;obtain⟨av,hav⟩:∃ av,S.r k=av:=⟨_,rfl⟩;rw[hav] at ck;have HAv:=Nc (hav▸HOK.out.r k hd);have HC:=Nc (HGo.out Wd.drew av bv S.f HWd.out.drew.mid HAv.out HBv.out HOK.out.f);rw[hav] at HR;clear hav n0 n1 n2 n3 n4 n5 n6 cj hWd hn;refine wp_region_held_drew (S:=fun w'=>w'.cell? ⟨n,1,none⟩=some (.int .i64 (k:Int))∧w'.cell? ⟨E.b,12312,none⟩=some (.map (some E.mp))∧w'.heap[E.mp]? =E.w1.heap[E.mp]?) (by kernel_rfl) (hS1.out) (fun hHeld=>?_);refine tq 0 rfl ?_;refine tq 1 rfl ?_;refine tq 2 rfl ?_;refine tq 3 rfl ?_;refine tq 4 rfl ?_;refine tq 5 rfl ?_;refine tq 6 rfl ?_;refine tq 7 rfl ?_;refine tq 8 rfl ?_;refine tq 9 rfl ?_;refine tq 10 rfl ?_;refine tq 11 rfl ?_;refine tq 12 rfl ?_;refine tq 13 rfl ?_;refine tq 14 rfl ?_;refine tq 15 rfl ?_;refine tq 16 rfl ?_;refine tq 18 rfl ?_;refine tq 19 rfl ?_;refine tq 20 rfl ?_;refine tq 21 rfl ?_;refine tq 22 rfl ?_;refine tq 28 rfl ?_;refine tq 29 rfl ?_;refine tq 30 rfl ?_;refine wpAnyH_ready (rs:=[17,23]) (by kernel_rfl) (by simp) ?_;refine AllReadyH.cons rfl (fun K hK=>?_) ?_
 ·go_simp
  refine hK.out _ _ (hS1.out) (fun hHeld=>?_);clear hK K
  try simp only[lay]
  refine rd1 23 rfl (fun K hK=>?_);go_simp;refine hK.out _ _ (hS1.out) (fun hHeld=>?_);clear hK K
  try simp only[lay]
  refine rd1 24 rfl (fun K hK=>?_);go_simp;rw[hcf.out,Oper.upon_enter];refine HC.out.mono ?_;rintro e w1 ⟨he,hb1⟩;by_cases hz:op=43∧bv=0
  ·have he2:=AP.no hz he
   subst he2;have HY:=Nc (HR.out.trans (if_pos hz));have M1:=Nc (HWd.out.drew.kept hb1);have G1:=Nc (ak (aO HGd.out) hb1);clear hb1 he;go_wp2_with fail
   exact⟨rfl,Post.trr HY.out rfl M1.out (Kp.refl S) G1.out⟩
  ·have he2:=AP.yes hz he
   subst he2;have HY:=Nc (HR.out.trans (if_neg hz));have hbd:=arB (op:=op) (HAv.out) (HBv.out) (HOK.out.f) HO.out hz;obtain⟨rv,hrv⟩:∃ rv,arR op av bv S.f=rv:=⟨_,rfl⟩;obtain⟨fv,hfv⟩:∃ fv,arF op av bv S.f=fv:=⟨_,rfl⟩;rw[hrv,hfv] at hbd HY⊢;have m1:=HWd.out.drew.kept hb1;have M2:=Nc (m1.aZ k hd rv hbd.1);have M3:=Nc ((m1.aZ k hd rv hbd.1).oL fv hbd.2);have G3:=Nc (ag (ag (ak (aO HGd.out) hb1) (7+k) (.int .u16 rv)) 18 (.int .u16 fv));have K1:=Nc (And.intro (cell_kept (w:=Wd.drew) HnD.out (ak (ah _ (some E.b)) hb1) hne) (And.intro m1.mZ m1.mJ));have K2:=Nc (And.intro (bV (i:=7+k) (v:= .int .u16 rv) K1.out.1 hne) (And.intro M2.out.mZ M2.out.mJ));have K3:=Nc (And.intro (bV (i:=18) (v:= .int .u16 fv) K2.out.1 hne) (And.intro M3.out.mZ M3.out.mJ));have ck1:=m1.cR k hd;have cf1:=m1.frz;have c181:=m1.c18;have cfm:=M2.out.c18;clear hb1 he m1 hbd hrv hfv;go_wp2_with fail
   refine hK.out _ _ (K1.out) (fun hHeld=>?_);clear hK K
   try simp only[lay]
   refine tq 25 rfl ?_;refine tq 26 rfl ?_;refine tq 27 rfl ?_;refine tq 31 rfl ?_;refine rd1 32 rfl (fun K hK=>?_);go_simp;refine hK.out _ _ (K2.out) (fun hHeld=>?_);clear hK K
   try simp only[lay]
   refine tq 33 rfl ?_;refine tq 34 rfl ?_;refine tq 35 rfl ?_;refine rd1 36 rfl (fun K hK=>?_);go_simp;refine hK.out _ _ (K3.out) (fun hHeld=>?_);clear hK K
   try simp only[lay]
   refine wpAnyH_done (by kernel_rfl) ?_ _;go_wp2_with fail
   go_end0
   exact Post.okk HY.out rfl M3.out G3.out
 refine AllReadyH.cons rfl (fun K hK=>?_) AllReadyH.nil
 ·go_simp
  refine hK.out _ _ (hS1.out) (fun hHeld=>?_);clear hK K
  try simp only[lay]
  refine rd1 17 rfl (fun K hK=>?_);go_simp;refine hK.out _ _ (hS1.out) (fun hHeld=>?_);clear hK K
  try simp only[lay]
  refine rd1 24 rfl (fun K hK=>?_);go_simp;rw[hcf.out,Oper.upon_enter];refine HC.out.mono ?_;rintro e w1 ⟨he,hb1⟩;by_cases hz:op=43∧bv=0
  ·have he2:=AP.no hz he
   subst he2;have HY:=Nc (HR.out.trans (if_pos hz));have M1:=Nc (HWd.out.drew.kept hb1);have G1:=Nc (ak (aO HGd.out) hb1);clear hb1 he;go_wp2_with fail
   exact⟨rfl,Post.trr HY.out rfl M1.out (Kp.refl S) G1.out⟩
  ·have he2:=AP.yes hz he
   subst he2;have HY:=Nc (HR.out.trans (if_neg hz));have hbd:=arB (op:=op) (HAv.out) (HBv.out) (HOK.out.f) HO.out hz;obtain⟨rv,hrv⟩:∃ rv,arR op av bv S.f=rv:=⟨_,rfl⟩;obtain⟨fv,hfv⟩:∃ fv,arF op av bv S.f=fv:=⟨_,rfl⟩;rw[hrv,hfv] at hbd HY⊢;have m1:=HWd.out.drew.kept hb1;have M2:=Nc (m1.aZ k hd rv hbd.1);have M3:=Nc ((m1.aZ k hd rv hbd.1).oL fv hbd.2);have G3:=Nc (ag (ag (ak (aO HGd.out) hb1) (7+k) (.int .u16 rv)) 18 (.int .u16 fv));have K1:=Nc (And.intro (cell_kept (w:=Wd.drew) HnD.out (ak (ah _ (some E.b)) hb1) hne) (And.intro m1.mZ m1.mJ));have K2:=Nc (And.intro (bV (i:=7+k) (v:= .int .u16 rv) K1.out.1 hne) (And.intro M2.out.mZ M2.out.mJ));have K3:=Nc (And.intro (bV (i:=18) (v:= .int .u16 fv) K2.out.1 hne) (And.intro M3.out.mZ M3.out.mJ));have ck1:=m1.cR k hd;have cf1:=m1.frz;have c181:=m1.c18;have cfm:=M2.out.c18;clear hb1 he m1 hbd hrv hfv;go_wp2_with fail
   refine hK.out _ _ (K1.out) (fun hHeld=>?_);clear hK K
   try simp only[lay]
   refine tq 25 rfl ?_;refine tq 26 rfl ?_;refine tq 27 rfl ?_;refine tq 31 rfl ?_;refine rd1 32 rfl (fun K hK=>?_);go_simp;refine hK.out _ _ (K2.out) (fun hHeld=>?_);clear hK K
   try simp only[lay]
   refine tq 33 rfl ?_;refine tq 34 rfl ?_;refine tq 35 rfl ?_;refine rd1 36 rfl (fun K hK=>?_);go_simp;refine hK.out _ _ (K3.out) (fun hHeld=>?_);clear hK K
   try simp only[lay]
   refine wpAnyH_done (by kernel_rfl) ?_ _;go_wp2_with fail
   go_end0
   exact Post.okk HY.out rfl M3.out G3.out
theorem Ej(E:Env)(ov:Value)(S:Ms)(op:Int)(k j:Nat)(im ax bk sz:Int)(w:World)(h:Mc E ov S w)(hz:Opz E)(hd:k < 8)(hj:j < 8)(hm:U16 im)(hop:(48≤op∧op≤62)∨(64≤op∧op≤78)):
  Calls Tryz.prog 114 #[.pointer (some ⟨E.b,0,none⟩),.agg #[.int .i64 op,.int .i64 (k:Int),.int .i64 (j:Int),.int .u16 im,.int .u16 ax,.int .i64 bk,.int .i64 sz]] w fun e w'=>Post E ov S w (arP S (32+op%16) k im) e w':=by
 have hlt:=h.lt;have hne:E.b≠w.heap.size:=by omega
 have hk8:(k:Int) < 8:=by omega
 have hj8:(j:Int) < 8:=by omega
 have HI:=Nc (aG w op k j im ax bk sz);have H1:=h.alloc (.cells #[.int .i64 op,.int .i64 (k:Int),.int .i64 (j:Int),.int .u16 im,.int .u16 ax,.int .i64 bk,.int .i64 sz] 58);have HG:=Nc (aJ (ah w (some E.b)) (.cells #[.int .i64 op,.int .i64 (k:Int),.int .i64 (j:Int),.int .u16 im,.int .u16 ax,.int .i64 bk,.int .i64 sz] 58));have HOK:=Nc h.ok;obtain⟨n0,n1,n2,n3,n4,n5,n6⟩:=HI.out;have cj:=H1.cR j hj;have H:=Nc H1;have ho:(18≤32+op%16∧32+op%16≤19)∨(32≤32+op%16∧32+op%16≤46):=by omega
 have htm:=bu op 16 (by omega);have hwo:IntKind.i64.wrap (32+op%16)=32+op%16:=IntWalk.i64_in _ (by omega);have HO:=Nc ho;obtain⟨oq,hoq⟩:∃ oq,32+op%16=oq:=⟨_,rfl⟩;rw[hoq] at ho HO hwo⊢;obtain⟨fn,caps,hgood,hlk⟩:=yU hz oq ho;obtain⟨fn',caps',hv',hcf',hgood'⟩:=hgood;injection hv' with hv1 hv2 hv3;injection hv1 with hv1;subst hv1;subst hv3;have HGo:=Nc hgood';have hcf:=Nc hcf';have HBv:=Nc hm;obtain⟨sv,hsv⟩:∃ sv,S.r j=sv:=⟨_,rfl⟩;rw[hsv] at cj;have dq:decide (46 < op)=true:=by simp;omega
 have HR:=Nc (show arP S oq k im=if oq=43∧im=0 then .tr 4 0 else .ok {aZ S k (arR oq (S.r k) im S.f) with f:=arF oq (S.r k) im S.f} by
  unfold arP;rw[show((k:Int)).toNat=k by omega])
 obtain⟨R,hR⟩:∃ R,arP S oq k im=R:=⟨_,rfl⟩;rw[hR] at HR⊢;clear h H1 hgood' hcf' hsv hz hR hop ho;go_enter Tryz.func114,Tryz.ntmps114
 go_wp2_with fail
 go_region
 go_wp2_with fail
 refine(qI op _).mono ?_;rintro e wz ⟨rfl,rfl⟩;go_wp2_with fail
 go_region
 go_wp2_with fail
 obtain⟨Wd,hWd⟩:∃ Wd,(w.alloc (.cells #[.int .i64 op,.int .i64 (k:Int),.int .i64 (j:Int),.int .u16 im,.int .u16 ax,.int .i64 bk,.int .i64 sz] 58)).drew.drew=Wd:=⟨_,rfl⟩;have HWd:=Nc (hWd▸H.out.drew.drew);have HGd:=Nc (hWd▸aO (aO HG.out));have hnD:Wd.cell? ⟨w.heap.size,1,none⟩=some (.int .i64 (k:Int)):=hWd▸n1;have HnD:=Nc hnD;rw[hWd];obtain⟨n,hn⟩:∃ n,w.heap.size=n:=⟨_,rfl⟩;rw[hn] at HnD hnD hne⊢;have hS1:=Nc (And.intro hnD (And.intro HWd.out.mZ HWd.out.mJ));have ck:=HWd.out.cR k hd;have c18:=HWd.out.c18;obtain⟨av,hav⟩:∃ av,S.r k=av:=⟨_,rfl⟩;rw[hav] at ck;have HAv:=Nc (hav▸HOK.out.r k hd);have HC:=Nc (HGo.out Wd.drew av im S.f HWd.out.drew.mid HAv.out HBv.out HOK.out.f);rw[hav] at HR;clear hav n0 n1 n2 n3 n4 n5 n6 cj hWd hn;refine wp_region_held_drew (S:=fun w'=>w'.cell? ⟨n,1,none⟩=some (.int .i64 (k:Int))∧w'.cell? ⟨E.b,12312,none⟩=some (.map (some E.mp))∧w'.heap[E.mp]? =E.w1.heap[E.mp]?) (by kernel_rfl) (hS1.out) (fun hHeld=>?_);refine tq 0 rfl ?_;refine tq 1 rfl ?_;refine tq 2 rfl ?_;refine tq 3 rfl ?_;refine tq 4 rfl ?_;refine tq 5 rfl ?_;refine tq 6 rfl ?_;refine tq 7 rfl ?_;refine tq 8 rfl ?_;refine tq 9 rfl ?_;refine tq 10 rfl ?_;refine tq 11 rfl ?_;refine tq 12 rfl ?_;refine tq 13 rfl ?_;refine tq 14 rfl ?_;refine tq 15 rfl ?_;refine tq 16 rfl ?_;refine tq 18 rfl ?_;refine tq 19 rfl ?_;refine tq 20 rfl ?_;refine tq 21 rfl ?_;refine tq 22 rfl ?_;refine tq 28 rfl ?_;refine tq 29 rfl ?_;refine tq 30 rfl ?_;refine wpAnyH_ready (rs:=[17,23]) (by kernel_rfl) (by simp) ?_;refine AllReadyH.cons rfl (fun K hK=>?_) ?_
 ·go_simp
  refine hK.out _ _ (hS1.out) (fun hHeld=>?_);clear hK K
  try simp only[lay]
  refine rd1 23 rfl (fun K hK=>?_);go_simp;refine hK.out _ _ (hS1.out) (fun hHeld=>?_);clear hK K
  try simp only[lay]
  refine rd1 24 rfl (fun K hK=>?_);go_simp;rw[hcf.out,Oper.upon_enter];refine HC.out.mono ?_;rintro e w1 ⟨he,hb1⟩;by_cases hz:oq=43∧im=0
  ·have he2:=AP.no hz he
   subst he2;have HY:=Nc (HR.out.trans (if_pos hz));have M1:=Nc (HWd.out.drew.kept hb1);have G1:=Nc (ak (aO HGd.out) hb1);clear hb1 he;go_wp2_with fail
   exact⟨rfl,Post.trr HY.out rfl M1.out (Kp.refl S) G1.out⟩
  ·have he2:=AP.yes hz he
   subst he2;have HY:=Nc (HR.out.trans (if_neg hz));have hbd:=arB (op:=oq) (HAv.out) (HBv.out) (HOK.out.f) HO.out hz;obtain⟨rv,hrv⟩:∃ rv,arR oq av im S.f=rv:=⟨_,rfl⟩;obtain⟨fv,hfv⟩:∃ fv,arF oq av im S.f=fv:=⟨_,rfl⟩;rw[hrv,hfv] at hbd HY⊢;have m1:=HWd.out.drew.kept hb1;have M2:=Nc (m1.aZ k hd rv hbd.1);have M3:=Nc ((m1.aZ k hd rv hbd.1).oL fv hbd.2);have G3:=Nc (ag (ag (ak (aO HGd.out) hb1) (7+k) (.int .u16 rv)) 18 (.int .u16 fv));have K1:=Nc (And.intro (cell_kept (w:=Wd.drew) HnD.out (ak (ah _ (some E.b)) hb1) hne) (And.intro m1.mZ m1.mJ));have K2:=Nc (And.intro (bV (i:=7+k) (v:= .int .u16 rv) K1.out.1 hne) (And.intro M2.out.mZ M2.out.mJ));have K3:=Nc (And.intro (bV (i:=18) (v:= .int .u16 fv) K2.out.1 hne) (And.intro M3.out.mZ M3.out.mJ));have ck1:=m1.cR k hd;have cf1:=m1.frz;have c181:=m1.c18;have cfm:=M2.out.c18;clear hb1 he m1 hbd hrv hfv;go_wp2_with fail
   refine hK.out _ _ (K1.out) (fun hHeld=>?_);clear hK K
   try simp only[lay]
   refine tq 25 rfl ?_;refine tq 26 rfl ?_;refine tq 27 rfl ?_;refine tq 31 rfl ?_;refine rd1 32 rfl (fun K hK=>?_);go_simp;refine hK.out _ _ (K2.out) (fun hHeld=>?_);clear hK K
   try simp only[lay]
   refine tq 33 rfl ?_;refine tq 34 rfl ?_;refine tq 35 rfl ?_;refine rd1 36 rfl (fun K hK=>?_);go_simp;refine hK.out _ _ (K3.out) (fun hHeld=>?_);clear hK K
   try simp only[lay]
   refine wpAnyH_done (by kernel_rfl) ?_ _;go_wp2_with fail
   go_end0
   exact Post.okk HY.out rfl M3.out G3.out
 refine AllReadyH.cons rfl (fun K hK=>?_) AllReadyH.nil
 ·go_simp
  refine hK.out _ _ (hS1.out) (fun hHeld=>?_);clear hK K
  try simp only[lay]
  refine rd1 17 rfl (fun K hK=>?_);go_simp;refine hK.out _ _ (hS1.out) (fun hHeld=>?_);clear hK K
  try simp only[lay]
  refine rd1 24 rfl (fun K hK=>?_);go_simp;rw[hcf.out,Oper.upon_enter];refine HC.out.mono ?_;rintro e w1 ⟨he,hb1⟩;by_cases hz:oq=43∧im=0
  ·have he2:=AP.no hz he
   subst he2;have HY:=Nc (HR.out.trans (if_pos hz));have M1:=Nc (HWd.out.drew.kept hb1);have G1:=Nc (ak (aO HGd.out) hb1);clear hb1 he;go_wp2_with fail
   exact⟨rfl,Post.trr HY.out rfl M1.out (Kp.refl S) G1.out⟩
  ·have he2:=AP.yes hz he
   subst he2;have HY:=Nc (HR.out.trans (if_neg hz));have hbd:=arB (op:=oq) (HAv.out) (HBv.out) (HOK.out.f) HO.out hz;obtain⟨rv,hrv⟩:∃ rv,arR oq av im S.f=rv:=⟨_,rfl⟩;obtain⟨fv,hfv⟩:∃ fv,arF oq av im S.f=fv:=⟨_,rfl⟩;rw[hrv,hfv] at hbd HY⊢;have m1:=HWd.out.drew.kept hb1;have M2:=Nc (m1.aZ k hd rv hbd.1);have M3:=Nc ((m1.aZ k hd rv hbd.1).oL fv hbd.2);have G3:=Nc (ag (ag (ak (aO HGd.out) hb1) (7+k) (.int .u16 rv)) 18 (.int .u16 fv));have K1:=Nc (And.intro (cell_kept (w:=Wd.drew) HnD.out (ak (ah _ (some E.b)) hb1) hne) (And.intro m1.mZ m1.mJ));have K2:=Nc (And.intro (bV (i:=7+k) (v:= .int .u16 rv) K1.out.1 hne) (And.intro M2.out.mZ M2.out.mJ));have K3:=Nc (And.intro (bV (i:=18) (v:= .int .u16 fv) K2.out.1 hne) (And.intro M3.out.mZ M3.out.mJ));have ck1:=m1.cR k hd;have cf1:=m1.frz;have c181:=m1.c18;have cfm:=M2.out.c18;clear hb1 he m1 hbd hrv hfv;go_wp2_with fail
   refine hK.out _ _ (K1.out) (fun hHeld=>?_);clear hK K
   try simp only[lay]
   refine tq 25 rfl ?_;refine tq 26 rfl ?_;refine tq 27 rfl ?_;refine tq 31 rfl ?_;refine rd1 32 rfl (fun K hK=>?_);go_simp;refine hK.out _ _ (K2.out) (fun hHeld=>?_);clear hK K
   try simp only[lay]
   refine tq 33 rfl ?_;refine tq 34 rfl ?_;refine tq 35 rfl ?_;refine rd1 36 rfl (fun K hK=>?_);go_simp;refine hK.out _ _ (K3.out) (fun hHeld=>?_);clear hK K
   try simp only[lay]
   refine wpAnyH_done (by kernel_rfl) ?_ _;go_wp2_with fail
   go_end0
   exact Post.okk HY.out rfl M3.out G3.out
end Go.Proofs.YthkcloapiefggaaGreatDoor
