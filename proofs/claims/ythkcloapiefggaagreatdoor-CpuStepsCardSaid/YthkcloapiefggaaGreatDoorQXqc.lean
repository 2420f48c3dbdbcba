import Derived.Test.YthkcloapiefggaaGreatDoorQXqa
import Derived.IntWalk
namespace Go.Proofs.YthkcloapiefggaaGreatDoor
set_option linter.unusedVariables false
set_option linter.unusedSimpArgs false
set_option maxRecDepth 100000
set_option maxHeartbeats 1000000
open Go.ChangeShapes Go.WideShapes Go.RowKit
section
variable {E:Qe} {sv ov:Value} {S S0:Ms} {d:Nat} {k i:Int} {w:World}
def PsE(E:Qe)(sv ov:Value)(S:Ms)(w:World)(R:Rs)(e:Ending)(w':World):Prop:=match R with
 | .ok S'=>e= .returned (.tuple #[])∧∃ sv' ov',Mq E sv' ov' S' S.sp 0 0 w'∧Frq E sv ov w sv' ov' w'
 | .tr k i=>e= .returned (.tuple #[])∧∃ sv' ov' S',Mq E sv' ov' S' S.sp k i w'∧Kp S S'∧Frq E sv ov w sv' ov' w'
theorem PsE.okk{R:Rs}{S':Ms}{e:Ending}{w':World}{sv' ov':Value}(hR:R= .ok S')(he:e= .returned (.tuple #[]))(hm:Mq E sv' ov' S' S.sp 0 0 w')(hf:Frq E sv ov w sv' ov' w'):PsE E sv ov S w R e w':=by subst hR;exact⟨he,_,_,hm,hf⟩
theorem PsE.trr{R:Rs}{S':Ms}{e:Ending}{w':World}{sv' ov':Value}(hR:R= .tr k i)(he:e= .returned (.tuple #[]))(hm:Mq E sv' ov' S' S.sp k i w')(hk:Kp S S')(hf:Frq E sv ov w sv' ov' w'):PsE E sv ov S w R e w':=by subst hR;exact⟨he,_,_,_,hm,hk,hf⟩
theorem PsE.jt{e:Ending}{w':World}{R:Rs}{P:Ms→Int→Int→Prop}(hR:R= .tr 5 0)(he:e= .returned (.tuple #[]))(h:Jt E S sv ov w P w')(hp:∀ S k i,P S k i→S.sp≤4096→k=5∧i=0):PsE E sv ov S w R e w':=by
 obtain⟨sv',ov',S',k,i,hm,hf,hk,hq⟩:=h;obtain⟨rfl,rfl⟩:=hp _ _ _ hq hm.ok.sp;exact PsE.trr hR he hm hk hf
theorem PsE.of{R:Rs}{e:Ending}{w':World}(h:WvE E sv ov S S.sp w R e w'):PsE E sv ov S w R e w':=by
 cases R with
 | ok S'=>exact⟨h.1,_,_,h.2.1,h.2.2⟩
 | tr k i=>exact⟨h.1,_,_,_,h.2.1,Kp.refl S,h.2.2⟩
theorem Jt.kept{sv0 ov0:Value}{w0 w':World}{P:Ms→Int→Int→Prop}(h:Jt E S0 sv0 ov0 w0 P w)(hb:Below w.heap.size w w'):Jt E S0 sv0 ov0 w0 P w':=by
 obtain⟨sv',ov',S',k,i,hm,hf,hk,hq⟩:=h;exact⟨sv',ov',S',k,i,hm.kept hb,hf.trans (Frq.below hb),hk,hq⟩
theorem Mq.st0(h:Mq E sv ov S d k i w):∃ p c,sv= .slice p S.sp c:=by
 obtain⟨p,c,hv,_⟩:=h.st.form;exact⟨p,c,hv⟩
theorem FT(k:Nat)(s im ax bk sz:Int)(h:Mq E sv ov S S.sp 0 0 w)(hk:k < 8)(hm:U16 im):
 Calls Tryz.prog 67 #[.pointer (some ⟨E.b,0,none⟩),.agg #[.int .i64 16,.int .i64 (k:Int),.int .i64 s,.int .u16 im,.int .u16 ax,.int .i64 bk,.int .i64 sz]] w (PsE E sv ov S w (room S 1 (psh S (S.r k)))):=by
 obtain⟨n0,n1,n2,n3,n4,n5,n6⟩:=aG w 16 k s im ax bk sz;have HB:=Nc (heap_alloc_new w (.cells #[.int .i64 16,.int .i64 (k:Int),.int .i64 s,.int .u16 im,.int .u16 ax,.int .i64 bk,.int .i64 sz] 58));have H:=Nc (h.alloc (.cells #[.int .i64 16,.int .i64 (k:Int),.int .i64 s,.int .u16 im,.int .u16 ax,.int .i64 bk,.int .i64 sz] 58));have HF:=Nc ((Frq.refl E sv ov w).alloc (.cells #[.int .i64 16,.int .i64 (k:Int),.int .i64 s,.int .u16 im,.int .u16 ax,.int .i64 bk,.int .i64 sz] 58));have hne:E.b≠w.heap.size:=by have:=h.lt;omega
 have hk8:(k:Int) < 8:=by omega
 have cR:=H.out.cR k hk;obtain⟨a0,a1⟩:=h.ok.r k hk;have HR:=Nc (h.ok.r k hk);have hf:=H.out.frz;by_cases hs:S.sp < 4096
 ·have e:room S 1 (psh S (S.r k))= .ok (psh S (S.r k)):=by unfold room;rw[if_pos (by omega)]
  rw[e];have HP:=Nc (fun W (hm:Mq E sv ov S S.sp 0 0 W)=>fB (S.r k) hm (Nat.le_refl _) hs HR.out);obtain⟨a,ha⟩:∃ a,S.r k=a:=⟨_,rfl⟩;rw[ha] at cR HP⊢;clear h e ha hs;go_enter Tryz.func67,Tryz.ntmps67
  go_wp2_with fail
  go_region_with ((go_at_call 117);(refine(HP.out _ (by first | exact H.out | exact H.out.drew)).mono ?_);rintro e w' ⟨rfl,sv',hm',hf'⟩;have HX:=Nc (And.intro hm' hf');clear hm' hf')
  all_goals
   go_wp2_with fail
   refine bodyPost_ret (results_none rfl _ _ _) rfl ?_;exact PsE.okk rfl rfl HX.out.1 (HF.out.trans (by first | exact HX.out.2 | exact(Frq.below (Below.refl _ _).drew).trans HX.out.2))
 ·have e:room S 1 (psh S (S.r k))= .tr 5 0:=by unfold room;rw[if_neg (by omega)]
  rw[e];have HP:=Nc (fun W (hm:Mq E sv ov S S.sp 0 0 W)=>vS (S.r k) hm (by omega) HR.out (.inr ⟨rfl,rfl⟩));obtain⟨a,ha⟩:∃ a,S.r k=a:=⟨_,rfl⟩;rw[ha] at cR HP;clear h e ha hs;go_enter Tryz.func67,Tryz.ntmps67
  go_wp2_with fail
  go_region_with ((go_at_call 117);(refine(HP.out _ (by first | exact H.out | exact H.out.drew)).mono ?_);rintro e w' ⟨rfl,hm',hf'⟩;have HX:=Nc (And.intro hm' hf');clear hm' hf')
  all_goals
   go_wp2_with fail
   refine bodyPost_ret (results_none rfl _ _ _) rfl ?_;exact PsE.trr rfl rfl HX.out.1 (Kp.refl S) (HF.out.trans (by first | exact HX.out.2 | exact(Frq.below (Below.refl _ _).drew).trans HX.out.2))
theorem FQ(k:Nat)(s im ax bk sz:Int)(h:Mq E sv ov S S.sp 0 0 w)(hk:k < 8)(hm:U16 im):
 Calls Tryz.prog 67 #[.pointer (some ⟨E.b,0,none⟩),.agg #[.int .i64 17,.int .i64 (k:Int),.int .i64 s,.int .u16 im,.int .u16 ax,.int .i64 bk,.int .i64 sz]] w (PsE E sv ov S w (if 0 < S.sp then .ok (aZ {S with sp:=S.sp-1} k (S.stk (S.sp-1))) else .tr 5 0)):=by
 obtain⟨n0,n1,n2,n3,n4,n5,n6⟩:=aG w 17 k s im ax bk sz;have HB:=Nc (heap_alloc_new w (.cells #[.int .i64 17,.int .i64 (k:Int),.int .i64 s,.int .u16 im,.int .u16 ax,.int .i64 bk,.int .i64 sz] 58));have H:=Nc (h.alloc (.cells #[.int .i64 17,.int .i64 (k:Int),.int .i64 s,.int .u16 im,.int .u16 ax,.int .i64 bk,.int .i64 sz] 58));have HF:=Nc ((Frq.refl E sv ov w).alloc (.cells #[.int .i64 17,.int .i64 (k:Int),.int .i64 s,.int .u16 im,.int .u16 ax,.int .i64 bk,.int .i64 sz] 58));have hne:E.b≠w.heap.size:=by have:=h.lt;omega
 have hk8:(k:Int) < 8:=by omega
 have cR:=H.out.cR k hk;obtain⟨a0,a1⟩:=h.ok.r k hk;have HR:=Nc (h.ok.r k hk);have hf:=H.out.frz;by_cases hs:0 < S.sp
 ·rw[if_pos hs]
  have hU:=h.ok.stk (S.sp-1) (by have:=h.ok.sp;omega);have HP:=Nc (fun W (hm:Mq E sv ov S S.sp 0 0 W)=>jJ hm hs);have HS:=Nc (fun sv' W (hm:Mq E sv' ov {S with sp:=S.sp-1} S.sp 0 0 W)=>hm.aZ k hk _ hU);have HU:=Nc (fun sv' W (hm:Mq E sv' ov {S with sp:=S.sp-1} S.sp 0 0 W)=>hm.cR k hk);have HR2:=Nc (show aZ {S with sp:=S.sp-1} k (S.stk (S.sp-1))={S with sp:=S.sp-1,r:=upd S.r k (S.stk (S.sp-1))} from rfl);rw[HR2.out];obtain⟨a,ha⟩:∃ a,S.stk (S.sp-1)=a:=⟨_,rfl⟩;rw[ha] at HP HS⊢;clear h ha hs hU cR a0 a1;go_enter Tryz.func67,Tryz.ntmps67
  go_wp2_with fail
  go_region_with ((go_at_call 118);(refine(HP.out _ (by first | exact H.out | exact H.out.drew)).mono ?_);rintro e w' ⟨rfl,sv',hm',hf'⟩;have HX:=Nc (And.intro hm' hf');have m1:=ae (hf'.keep (by first | exact H.out | exact H.out.drew) HB.out) 1 (.int .i64 (k:Int)) rfl;have mf:=hm'.frz;have mc:=HU.out _ _ hm';clear hm' hf')
  all_goals
   go_wp2_with fail
   refine bodyPost_ret (results_none rfl _ _ _) rfl ?_;first
   | exact PsE.okk rfl rfl (HS.out _ _ HX.out.1) ((HF.out.trans (by first | exact HX.out.2 | exact(Frq.below (Below.refl _ _).drew).trans HX.out.2)).set _ _)
   | exact PsE.okk rfl rfl (HS.out _ _ HX.out.1).drew ((HF.out.trans (by first | exact HX.out.2 | exact(Frq.below (Below.refl _ _).drew).trans HX.out.2)).set _ _).drew
 ·rw[if_neg hs]
  have HP:=Nc (fun W (hm:Mq E sv ov S S.sp 0 0 W)=>yH hm (by omega) (.inr ⟨rfl,rfl⟩));have HU:=Nc (fun W (hm:Mq E sv ov S S.sp 5 0 W)=>hm.cR k hk);have HS:=Nc (fun W (hm:Mq E sv ov S S.sp 5 0 W)=>hm.aZ k hk 0 ⟨by decide,by decide⟩);clear h hs cR a0 a1;go_enter Tryz.func67,Tryz.ntmps67
  go_wp2_with fail
  go_region_with ((go_at_call 118);(refine(HP.out _ (by first | exact H.out | exact H.out.drew)).mono ?_);rintro e w' ⟨rfl,hm',hf'⟩;have HX:=Nc (And.intro hm' hf');have m1:=ae (hf'.keep (by first | exact H.out | exact H.out.drew) HB.out) 1 (.int .i64 (k:Int)) rfl;have mf:=hm'.frz;have mc:=HU.out _ hm';clear hm' hf')
  all_goals
   go_wp2_with fail
   refine bodyPost_ret (results_none rfl _ _ _) rfl ?_;first
   | exact PsE.trr rfl rfl (HS.out _ HX.out.1) (⟨rfl,rfl,fun _ _=>rfl⟩) ((HF.out.trans (by first | exact HX.out.2 | exact(Frq.below (Below.refl _ _).drew).trans HX.out.2)).set _ _)
   | exact PsE.trr rfl rfl (HS.out _ HX.out.1).drew (⟨rfl,rfl,fun _ _=>rfl⟩) ((HF.out.trans (by first | exact HX.out.2 | exact(Frq.below (Below.refl _ _).drew).trans HX.out.2)).set _ _).drew
theorem BV(k:Nat)(s im ax bk sz:Int)(h:Mq E sv ov S S.sp 0 0 w)(hk:k < 8)(hm:U16 im):
 Calls Tryz.prog 67 #[.pointer (some ⟨E.b,0,none⟩),.agg #[.int .i64 160,.int .i64 (k:Int),.int .i64 s,.int .u16 im,.int .u16 ax,.int .i64 bk,.int .i64 sz]] w (PsE E sv ov S w (cZ S ((S.sp:Int)-1-im) (aZ S k (S.stk ((S.sp:Int)-1-im).toNat)))):=by
 obtain⟨n0,n1,n2,n3,n4,n5,n6⟩:=aG w 160 k s im ax bk sz;have HB:=Nc (heap_alloc_new w (.cells #[.int .i64 160,.int .i64 (k:Int),.int .i64 s,.int .u16 im,.int .u16 ax,.int .i64 bk,.int .i64 sz] 58));have H:=Nc (h.alloc (.cells #[.int .i64 160,.int .i64 (k:Int),.int .i64 s,.int .u16 im,.int .u16 ax,.int .i64 bk,.int .i64 sz] 58));have HF:=Nc ((Frq.refl E sv ov w).alloc (.cells #[.int .i64 160,.int .i64 (k:Int),.int .i64 s,.int .u16 im,.int .u16 ax,.int .i64 bk,.int .i64 sz] 58));have hne:E.b≠w.heap.size:=by have:=h.lt;omega
 have hk8:(k:Int) < 8:=by omega
 have cR:=H.out.cR k hk;obtain⟨a0,a1⟩:=h.ok.r k hk;have HR:=Nc (h.ok.r k hk);have hf:=H.out.frz;obtain⟨m0,m1⟩:=hm;have hsp:=h.ok.sp;have hw3:IntKind.i64.wrap im=im:=IntWalk.i64_in _ (by omega);by_cases hq:0≤((S.sp:Int)-1-im)∧((S.sp:Int)-1-im) < (S.sp:Int)
 ·obtain⟨q0,q1⟩:=hq
  have e:cZ S ((S.sp:Int)-1-im) (aZ S k (S.stk ((S.sp:Int)-1-im).toNat))= .ok (aZ S k (S.stk ((S.sp:Int)-1-im).toNat)):=by unfold cZ;rw[if_pos ⟨q0,q1⟩]
  rw[e];obtain⟨j,hn⟩:∃ j:Nat,((S.sp:Int)-1-im)=j:=⟨((S.sp:Int)-1-im).toNat,by omega⟩;have hj:j < S.sp:=by omega
  obtain⟨g,c,hv,hc,hcm⟩:=h.st.pos (by omega);subst hv;have HSl:=Nc (fun W (hm:Mq E (.slice (some ⟨g,0,none⟩) S.sp c) ov S S.sp 0 0 W)=>lZ (j:Int) hm (by omega) (by omega));have c24:=H.out.at 24 (.slice (some ⟨g,0,none⟩) S.sp c) rfl;have cS:=H.out.st.cell j hj;have fS:∀ o,(w.alloc (.cells #[.int .i64 160,.int .i64 (k:Int),.int .i64 s,.int .u16 im,.int .u16 ax,.int .i64 bk,.int .i64 sz] 58)).frozen? ⟨g,o,none⟩=false:=by
   obtain⟨_,A,hA⟩:=H.out.st.typ (g:=g) rfl;exact fun o=>frozen_of_row _ g o _ _ hA
  have HX:=Nc (H.out.aZ k hk (S.stk j) (h.ok.stk j (by have:=h.ok.sp;omega)));have HG:=Nc (HF.out.set (7+k) (.int .u16 (S.stk j)));rw[hn,show((j:Int)).toNat=j from rfl];have hjj:(j:Int) < (S.sp:Int):=by omega
  have hn0:¬ (j:Int) < 0:=by omega
  have hw1:IntKind.i64.wrap ((S.sp:Int)-1)=(S.sp:Int)-1:=IntWalk.i64_in _ (by have:=h.ok.sp;omega);have hw2:IntKind.i64.wrap ((S.sp:Int)-1-im)=(j:Int):=by rw[← hn];exact IntWalk.i64_in _ (by have:=h.ok.sp;omega)
  unfold maxLen at hcm;have hcs:(S.sp:Int)≤4096:=by have:=h.ok.sp;omega
  obtain⟨a,ha⟩:∃ a,S.r k=a:=⟨_,rfl⟩;obtain⟨b,hb⟩:∃ b,S.stk j=b:=⟨_,rfl⟩;rw[ha] at cR;rw[hb] at cS HX HG⊢;clear h e q0 q1 hk ha hb hj hc hn hsp;go_enter Tryz.func67,Tryz.ntmps67
  go_wp2_with fail
  go_region_with ((go_at_call 119);(with_reducible refine(HSl.out _ (by first | exact H.out | exact H.out.drew)).mono ?_);rintro e w' ⟨rfl,rfl⟩)
  all_goals
   go_wp2_with fail
   go_region
   go_wp2_with fail
   go_end0
   exact PsE.okk rfl rfl HX.out.drew.drew HG.out.drew.drew
 ·have e:cZ S ((S.sp:Int)-1-im) (aZ S k (S.stk ((S.sp:Int)-1-im).toNat))= .tr 5 0:=by unfold cZ;rw[if_neg hq]
  rw[e];have HSl:=Nc (fun W (hm:Mq E sv ov S S.sp 0 0 W)=>l7 ((S.sp:Int)-1-im) hm hq);obtain⟨p,c,hv⟩:=h.st0;subst hv;have c24:=H.out.at 24 (.slice p S.sp c) rfl;have hcs:(S.sp:Int)≤4096:=by have:=h.ok.sp;omega
  have hw1:IntKind.i64.wrap ((S.sp:Int)-1)=(S.sp:Int)-1:=IntWalk.i64_in _ (by omega);have hw2:IntKind.i64.wrap ((S.sp:Int)-1-im)=((S.sp:Int)-1-im):=IntWalk.i64_in _ (by omega);clear h e hq hk cR hsp;go_enter Tryz.func67,Tryz.ntmps67
  go_wp2_with fail
  go_region_with ((go_at_call 119);(with_reducible refine(HSl.out _ (by first | exact H.out | exact H.out.drew)).mono ?_);rintro e w' ⟨rfl,hm',hf'⟩;have HX:=Nc (And.intro hm' hf');clear hm' hf')
  all_goals
   go_wp2_with fail
   refine bodyPost_ret (results_none rfl _ _ _) rfl ?_;first
   | exact PsE.trr rfl rfl HX.out.1 (Kp.refl S) (HF.out.trans (by first | exact HX.out.2 | exact(Frq.below (Below.refl _ _).drew).trans HX.out.2))
   | exact PsE.trr rfl rfl HX.out.1.drew (Kp.refl S) (HF.out.trans (by first | exact HX.out.2 | exact(Frq.below (Below.refl _ _).drew).trans HX.out.2)).drew
theorem BU(k:Nat)(s im ax bk sz:Int)(h:Mq E sv ov S S.sp 0 0 w)(hk:k < 8)(hm:U16 im):
 Calls Tryz.prog 67 #[.pointer (some ⟨E.b,0,none⟩),.agg #[.int .i64 161,.int .i64 (k:Int),.int .i64 s,.int .u16 im,.int .u16 ax,.int .i64 bk,.int .i64 sz]] w (PsE E sv ov S w (cZ S ((S.sp:Int)-1-im) ({S with stk:=upd S.stk ((S.sp:Int)-1-im).toNat (S.r k)}))):=by
 obtain⟨n0,n1,n2,n3,n4,n5,n6⟩:=aG w 161 k s im ax bk sz;have HB:=Nc (heap_alloc_new w (.cells #[.int .i64 161,.int .i64 (k:Int),.int .i64 s,.int .u16 im,.int .u16 ax,.int .i64 bk,.int .i64 sz] 58));have H:=Nc (h.alloc (.cells #[.int .i64 161,.int .i64 (k:Int),.int .i64 s,.int .u16 im,.int .u16 ax,.int .i64 bk,.int .i64 sz] 58));have HF:=Nc ((Frq.refl E sv ov w).alloc (.cells #[.int .i64 161,.int .i64 (k:Int),.int .i64 s,.int .u16 im,.int .u16 ax,.int .i64 bk,.int .i64 sz] 58));have hne:E.b≠w.heap.size:=by have:=h.lt;omega
 have hk8:(k:Int) < 8:=by omega
 have cR:=H.out.cR k hk;obtain⟨a0,a1⟩:=h.ok.r k hk;have HR:=Nc (h.ok.r k hk);have hf:=H.out.frz;obtain⟨m0,m1⟩:=hm;have hsp:=h.ok.sp;have hw3:IntKind.i64.wrap im=im:=IntWalk.i64_in _ (by omega);by_cases hq:0≤((S.sp:Int)-1-im)∧((S.sp:Int)-1-im) < (S.sp:Int)
 ·obtain⟨q0,q1⟩:=hq
  have e:cZ S ((S.sp:Int)-1-im) ({S with stk:=upd S.stk ((S.sp:Int)-1-im).toNat (S.r k)})= .ok ({S with stk:=upd S.stk ((S.sp:Int)-1-im).toNat (S.r k)}):=by unfold cZ;rw[if_pos ⟨q0,q1⟩]
  rw[e];obtain⟨j,hn⟩:∃ j:Nat,((S.sp:Int)-1-im)=j:=⟨((S.sp:Int)-1-im).toNat,by omega⟩;have hj:j < S.sp:=by omega
  obtain⟨g,c,hv,hc,hcm⟩:=h.st.pos (by omega);subst hv;have HSl:=Nc (fun W (hm:Mq E (.slice (some ⟨g,0,none⟩) S.sp c) ov S S.sp 0 0 W)=>lZ (j:Int) hm (by omega) (by omega));have c24:=H.out.at 24 (.slice (some ⟨g,0,none⟩) S.sp c) rfl;have cS:=H.out.st.cell j hj;have fS:∀ o,(w.alloc (.cells #[.int .i64 161,.int .i64 (k:Int),.int .i64 s,.int .u16 im,.int .u16 ax,.int .i64 bk,.int .i64 sz] 58)).frozen? ⟨g,o,none⟩=false:=by
   obtain⟨_,A,hA⟩:=H.out.st.typ (g:=g) rfl;exact fun o=>frozen_of_row _ g o _ _ hA
  have HX:Hid (Mq E (.slice (some ⟨g,0,none⟩) S.sp c) ov {S with stk:=upd S.stk j (S.r k)} S.sp 0 0 _):=Nc (H.out.nH g c rfl j hj _ HR.out);have HG:=Nc (HF.out.trans (Frq.grown (grown_setCell _ g j (.int .u16 (S.r k))) (.inr (.inr (.inl rfl)))));rw[hn,show((j:Int)).toNat=j from rfl];have hjj:(j:Int) < (S.sp:Int):=by omega
  have hn0:¬ (j:Int) < 0:=by omega
  have hw1:IntKind.i64.wrap ((S.sp:Int)-1)=(S.sp:Int)-1:=IntWalk.i64_in _ (by have:=h.ok.sp;omega);have hw2:IntKind.i64.wrap ((S.sp:Int)-1-im)=(j:Int):=by rw[← hn];exact IntWalk.i64_in _ (by have:=h.ok.sp;omega)
  unfold maxLen at hcm;have hcs:(S.sp:Int)≤4096:=by have:=h.ok.sp;omega
  obtain⟨a,ha⟩:∃ a,S.r k=a:=⟨_,rfl⟩;obtain⟨b,hb⟩:∃ b,S.stk j=b:=⟨_,rfl⟩;rw[ha] at cR HX HG⊢;rw[hb] at cS;clear h e q0 q1 hk ha hb hj hc hn hsp;go_enter Tryz.func67,Tryz.ntmps67
  go_wp2_with fail
  go_region_with ((go_at_call 119);(with_reducible refine(HSl.out _ (by first | exact H.out | exact H.out.drew)).mono ?_);rintro e w' ⟨rfl,rfl⟩)
  all_goals
   go_wp2_with fail
   go_region
   go_wp2_with fail
   go_end0
   exact PsE.okk rfl rfl HX.out.drew.drew HG.out.drew.drew
 ·have e:cZ S ((S.sp:Int)-1-im) ({S with stk:=upd S.stk ((S.sp:Int)-1-im).toNat (S.r k)})= .tr 5 0:=by unfold cZ;rw[if_neg hq]
  rw[e];have HSl:=Nc (fun W (hm:Mq E sv ov S S.sp 0 0 W)=>l7 ((S.sp:Int)-1-im) hm hq);obtain⟨p,c,hv⟩:=h.st0;subst hv;have c24:=H.out.at 24 (.slice p S.sp c) rfl;have hcs:(S.sp:Int)≤4096:=by have:=h.ok.sp;omega
  have hw1:IntKind.i64.wrap ((S.sp:Int)-1)=(S.sp:Int)-1:=IntWalk.i64_in _ (by omega);have hw2:IntKind.i64.wrap ((S.sp:Int)-1-im)=((S.sp:Int)-1-im):=IntWalk.i64_in _ (by omega);clear h e hq hk cR hsp;go_enter Tryz.func67,Tryz.ntmps67
  go_wp2_with fail
  go_region_with ((go_at_call 119);(with_reducible refine(HSl.out _ (by first | exact H.out | exact H.out.drew)).mono ?_);rintro e w' ⟨rfl,hm',hf'⟩;have HX:=Nc (And.intro hm' hf');clear hm' hf')
  all_goals
   go_wp2_with fail
   refine bodyPost_ret (results_none rfl _ _ _) rfl ?_;first
   | exact PsE.trr rfl rfl HX.out.1 (Kp.refl S) (HF.out.trans (by first | exact HX.out.2 | exact(Frq.below (Below.refl _ _).drew).trans HX.out.2))
   | exact PsE.trr rfl rfl HX.out.1.drew (Kp.refl S) (HF.out.trans (by first | exact HX.out.2 | exact(Frq.below (Below.refl _ _).drew).trans HX.out.2)).drew
theorem BR(k:Nat)(s im ax bk sz:Int)(h:Mq E sv ov S S.sp 0 0 w)(hk:k < 8)(hm:U16 im):
 Calls Tryz.prog 67 #[.pointer (some ⟨E.b,0,none⟩),.agg #[.int .i64 162,.int .i64 (k:Int),.int .i64 s,.int .u16 im,.int .u16 ax,.int .i64 bk,.int .i64 sz]] w (PsE E sv ov S w (cZ S (S.fp+sgn im) (aZ S k (S.stk (S.fp+sgn im).toNat)))):=by
 obtain⟨n0,n1,n2,n3,n4,n5,n6⟩:=aG w 162 k s im ax bk sz;have HB:=Nc (heap_alloc_new w (.cells #[.int .i64 162,.int .i64 (k:Int),.int .i64 s,.int .u16 im,.int .u16 ax,.int .i64 bk,.int .i64 sz] 58));have H:=Nc (h.alloc (.cells #[.int .i64 162,.int .i64 (k:Int),.int .i64 s,.int .u16 im,.int .u16 ax,.int .i64 bk,.int .i64 sz] 58));have HF:=Nc ((Frq.refl E sv ov w).alloc (.cells #[.int .i64 162,.int .i64 (k:Int),.int .i64 s,.int .u16 im,.int .u16 ax,.int .i64 bk,.int .i64 sz] 58));have hne:E.b≠w.heap.size:=by have:=h.lt;omega
 have hk8:(k:Int) < 8:=by omega
 have cR:=H.out.cR k hk;obtain⟨a0,a1⟩:=h.ok.r k hk;have HR:=Nc (h.ok.r k hk);have hf:=H.out.frz;have c17:=H.out.at 17 (.int .u16 S.fp) rfl;have hw:=ed im hm.1 hm.2;obtain⟨p0,p1⟩:=h.ok.fp;obtain⟨t0,t1⟩: -32768≤sgn im∧sgn im < 32768:=by unfold sgn;have:=hm.1;have:=hm.2;split<;>omega
 obtain⟨t,ht⟩:∃ t,sgn im=t:=⟨_,rfl⟩;rw[ht] at hw t0 t1⊢;clear ht;have hw3:IntKind.i64.wrap S.fp=S.fp:=IntWalk.i64_in _ (by omega);have hw4:IntKind.i64.wrap t=t:=IntWalk.i64_in _ (by omega);by_cases hq:0≤(S.fp+t)∧(S.fp+t) < (S.sp:Int)
 ·obtain⟨q0,q1⟩:=hq
  have e:cZ S (S.fp+t) (aZ S k (S.stk (S.fp+t).toNat))= .ok (aZ S k (S.stk (S.fp+t).toNat)):=by unfold cZ;rw[if_pos ⟨q0,q1⟩]
  rw[e];obtain⟨j,hn⟩:∃ j:Nat,(S.fp+t)=j:=⟨(S.fp+t).toNat,by omega⟩;have hj:j < S.sp:=by omega
  obtain⟨g,c,hv,hc,hcm⟩:=h.st.pos (by omega);subst hv;have HSl:=Nc (fun W (hm:Mq E (.slice (some ⟨g,0,none⟩) S.sp c) ov S S.sp 0 0 W)=>lZ (j:Int) hm (by omega) (by omega));have c24:=H.out.at 24 (.slice (some ⟨g,0,none⟩) S.sp c) rfl;have cS:=H.out.st.cell j hj;have fS:∀ o,(w.alloc (.cells #[.int .i64 162,.int .i64 (k:Int),.int .i64 s,.int .u16 im,.int .u16 ax,.int .i64 bk,.int .i64 sz] 58)).frozen? ⟨g,o,none⟩=false:=by
   obtain⟨_,A,hA⟩:=H.out.st.typ (g:=g) rfl;exact fun o=>frozen_of_row _ g o _ _ hA
  have HX:=Nc (H.out.aZ k hk (S.stk j) (h.ok.stk j (by have:=h.ok.sp;omega)));have HG:=Nc (HF.out.set (7+k) (.int .u16 (S.stk j)));rw[hn,show((j:Int)).toNat=j from rfl];have hjj:(j:Int) < (S.sp:Int):=by omega
  have hn0:¬ (j:Int) < 0:=by omega
  have hw1:IntKind.i64.wrap ((S.sp:Int)-1)=(S.sp:Int)-1:=IntWalk.i64_in _ (by have:=h.ok.sp;omega);have hw2:IntKind.i64.wrap (S.fp+t)=(j:Int):=by rw[← hn];exact IntWalk.i64_in _ (by have:=h.ok.sp;omega)
  unfold maxLen at hcm;have hcs:(S.sp:Int)≤4096:=by have:=h.ok.sp;omega
  obtain⟨a,ha⟩:∃ a,S.r k=a:=⟨_,rfl⟩;obtain⟨b,hb⟩:∃ b,S.stk j=b:=⟨_,rfl⟩;rw[ha] at cR;rw[hb] at cS HX HG⊢;clear h e q0 q1 hk ha hb hj hc hn;go_enter Tryz.func67,Tryz.ntmps67
  go_wp2_with fail
  go_region_with ((go_at_call 119);(with_reducible refine(HSl.out _ (by first | exact H.out | exact H.out.drew)).mono ?_);rintro e w' ⟨rfl,rfl⟩)
  all_goals
   go_wp2_with fail
   go_region
   go_wp2_with fail
   go_end0
   exact PsE.okk rfl rfl HX.out.drew.drew HG.out.drew.drew
 ·have e:cZ S (S.fp+t) (aZ S k (S.stk (S.fp+t).toNat))= .tr 5 0:=by unfold cZ;rw[if_neg hq]
  rw[e];have HSl:=Nc (fun W (hm:Mq E sv ov S S.sp 0 0 W)=>l7 (S.fp+t) hm hq);obtain⟨p,c,hv⟩:=h.st0;subst hv;have c24:=H.out.at 24 (.slice p S.sp c) rfl;have hcs:(S.sp:Int)≤4096:=by have:=h.ok.sp;omega
  have hw1:IntKind.i64.wrap ((S.sp:Int)-1)=(S.sp:Int)-1:=IntWalk.i64_in _ (by omega);have hw2:IntKind.i64.wrap (S.fp+t)=(S.fp+t):=IntWalk.i64_in _ (by omega);clear h e hq hk cR;go_enter Tryz.func67,Tryz.ntmps67
  go_wp2_with fail
  go_region_with ((go_at_call 119);(with_reducible refine(HSl.out _ (by first | exact H.out | exact H.out.drew)).mono ?_);rintro e w' ⟨rfl,hm',hf'⟩;have HX:=Nc (And.intro hm' hf');clear hm' hf')
  all_goals
   go_wp2_with fail
   refine bodyPost_ret (results_none rfl _ _ _) rfl ?_;first
   | exact PsE.trr rfl rfl HX.out.1 (Kp.refl S) (HF.out.trans (by first | exact HX.out.2 | exact(Frq.below (Below.refl _ _).drew).trans HX.out.2))
   | exact PsE.trr rfl rfl HX.out.1.drew (Kp.refl S) (HF.out.trans (by first | exact HX.out.2 | exact(Frq.below (Below.refl _ _).drew).trans HX.out.2)).drew
theorem BQ(k:Nat)(s im ax bk sz:Int)(h:Mq E sv ov S S.sp 0 0 w)(hk:k < 8)(hm:U16 im):
 Calls Tryz.prog 67 #[.pointer (some ⟨E.b,0,none⟩),.agg #[.int .i64 163,.int .i64 (k:Int),.int .i64 s,.int .u16 im,.int .u16 ax,.int .i64 bk,.int .i64 sz]] w (PsE E sv ov S w (cZ S (S.fp+sgn im) ({S with stk:=upd S.stk (S.fp+sgn im).toNat (S.r k)}))):=by
 obtain⟨n0,n1,n2,n3,n4,n5,n6⟩:=aG w 163 k s im ax bk sz;have HB:=Nc (heap_alloc_new w (.cells #[.int .i64 163,.int .i64 (k:Int),.int .i64 s,.int .u16 im,.int .u16 ax,.int .i64 bk,.int .i64 sz] 58));have H:=Nc (h.alloc (.cells #[.int .i64 163,.int .i64 (k:Int),.int .i64 s,.int .u16 im,.int .u16 ax,.int .i64 bk,.int .i64 sz] 58));have HF:=Nc ((Frq.refl E sv ov w).alloc (.cells #[.int .i64 163,.int .i64 (k:Int),.int .i64 s,.int .u16 im,.int .u16 ax,.int .i64 bk,.int .i64 sz] 58));have hne:E.b≠w.heap.size:=by have:=h.lt;omega
 have hk8:(k:Int) < 8:=by omega
 have cR:=H.out.cR k hk;obtain⟨a0,a1⟩:=h.ok.r k hk;have HR:=Nc (h.ok.r k hk);have hf:=H.out.frz;have c17:=H.out.at 17 (.int .u16 S.fp) rfl;have hw:=ed im hm.1 hm.2;obtain⟨p0,p1⟩:=h.ok.fp;obtain⟨t0,t1⟩: -32768≤sgn im∧sgn im < 32768:=by unfold sgn;have:=hm.1;have:=hm.2;split<;>omega
 obtain⟨t,ht⟩:∃ t,sgn im=t:=⟨_,rfl⟩;rw[ht] at hw t0 t1⊢;clear ht;have hw3:IntKind.i64.wrap S.fp=S.fp:=IntWalk.i64_in _ (by omega);have hw4:IntKind.i64.wrap t=t:=IntWalk.i64_in _ (by omega);by_cases hq:0≤(S.fp+t)∧(S.fp+t) < (S.sp:Int)
 ·obtain⟨q0,q1⟩:=hq
  have e:cZ S (S.fp+t) ({S with stk:=upd S.stk (S.fp+t).toNat (S.r k)})= .ok ({S with stk:=upd S.stk (S.fp+t).toNat (S.r k)}):=by unfold cZ;rw[if_pos ⟨q0,q1⟩]
  rw[e];obtain⟨j,hn⟩:∃ j:Nat,(S.fp+t)=j:=⟨(S.fp+t).toNat,by omega⟩;have hj:j < S.sp:=by omega
  obtain⟨g,c,hv,hc,hcm⟩:=h.st.pos (by omega);subst hv;have HSl:=Nc (fun W (hm:Mq E (.slice (some ⟨g,0,none⟩) S.sp c) ov S S.sp 0 0 W)=>lZ (j:Int) hm (by omega) (by omega));have c24:=H.out.at 24 (.slice (some ⟨g,0,none⟩) S.sp c) rfl;have cS:=H.out.st.cell j hj;have fS:∀ o,(w.alloc (.cells #[.int .i64 163,.int .i64 (k:Int),.int .i64 s,.int .u16 im,.int .u16 ax,.int .i64 bk,.int .i64 sz] 58)).frozen? ⟨g,o,none⟩=false:=by
   obtain⟨_,A,hA⟩:=H.out.st.typ (g:=g) rfl;exact fun o=>frozen_of_row _ g o _ _ hA
  have HX:Hid (Mq E (.slice (some ⟨g,0,none⟩) S.sp c) ov {S with stk:=upd S.stk j (S.r k)} S.sp 0 0 _):=Nc (H.out.nH g c rfl j hj _ HR.out);have HG:=Nc (HF.out.trans (Frq.grown (grown_setCell _ g j (.int .u16 (S.r k))) (.inr (.inr (.inl rfl)))));rw[hn,show((j:Int)).toNat=j from rfl];have hjj:(j:Int) < (S.sp:Int):=by omega
  have hn0:¬ (j:Int) < 0:=by omega
  have hw1:IntKind.i64.wrap ((S.sp:Int)-1)=(S.sp:Int)-1:=IntWalk.i64_in _ (by have:=h.ok.sp;omega);have hw2:IntKind.i64.wrap (S.fp+t)=(j:Int):=by rw[← hn];exact IntWalk.i64_in _ (by have:=h.ok.sp;omega)
  unfold maxLen at hcm;have hcs:(S.sp:Int)≤4096:=by have:=h.ok.sp;omega
  obtain⟨a,ha⟩:∃ a,S.r k=a:=⟨_,rfl⟩;obtain⟨b,hb⟩:∃ b,S.stk j=b:=⟨_,rfl⟩;rw[ha] at cR HX HG⊢;rw[hb] at cS;clear h e q0 q1 hk ha hb hj hc hn;go_enter Tryz.func67,Tryz.ntmps67
  go_wp2_with fail
  go_region_with ((go_at_call 119);(with_reducible refine(HSl.out _ (by first | exact H.out | exact H.out.drew)).mono ?_);rintro e w' ⟨rfl,rfl⟩)
  all_goals
   go_wp2_with fail
   go_region
   go_wp2_with fail
   go_end0
   exact PsE.okk rfl rfl HX.out.drew.drew HG.out.drew.drew
 ·have e:cZ S (S.fp+t) ({S with stk:=upd S.stk (S.fp+t).toNat (S.r k)})= .tr 5 0:=by unfold cZ;rw[if_neg hq]
  rw[e];have HSl:=Nc (fun W (hm:Mq E sv ov S S.sp 0 0 W)=>l7 (S.fp+t) hm hq);obtain⟨p,c,hv⟩:=h.st0;subst hv;have c24:=H.out.at 24 (.slice p S.sp c) rfl;have hcs:(S.sp:Int)≤4096:=by have:=h.ok.sp;omega
  have hw1:IntKind.i64.wrap ((S.sp:Int)-1)=(S.sp:Int)-1:=IntWalk.i64_in _ (by omega);have hw2:IntKind.i64.wrap (S.fp+t)=(S.fp+t):=IntWalk.i64_in _ (by omega);clear h e hq hk cR;go_enter Tryz.func67,Tryz.ntmps67
  go_wp2_with fail
  go_region_with ((go_at_call 119);(with_reducible refine(HSl.out _ (by first | exact H.out | exact H.out.drew)).mono ?_);rintro e w' ⟨rfl,hm',hf'⟩;have HX:=Nc (And.intro hm' hf');clear hm' hf')
  all_goals
   go_wp2_with fail
   refine bodyPost_ret (results_none rfl _ _ _) rfl ?_;first
   | exact PsE.trr rfl rfl HX.out.1 (Kp.refl S) (HF.out.trans (by first | exact HX.out.2 | exact(Frq.below (Below.refl _ _).drew).trans HX.out.2))
   | exact PsE.trr rfl rfl HX.out.1.drew (Kp.refl S) (HF.out.trans (by first | exact HX.out.2 | exact(Frq.below (Below.refl _ _).drew).trans HX.out.2)).drew
end

section
variable {E:Qe} {sv ov:Value} {S S0:Ms} {d:Nat} {k i:Int} {w:World}
theorem Jt.keep{sv0 ov0:Value}{W wr:World}{P:Ms→Int→Int→Prop}{S1:Ms}{g:Nat}{A:Array Value}(h:Jt E S0 sv0 ov0 W P wr)(H:Mq E sv0 ov0 S1 d k i W)(hb:W.heap[g]? =some (.cells A 58 (0,0))):wr.heap[g]? =some (.cells A 58 (0,0)):=by
 obtain⟨sv',ov',S',k,i,hm,hf,hk,hq⟩:=h;exact hf.keep H hb
theorem Jt.pre{sv0 ov0 sv1 ov1:Value}{w0 w1:World}{P:Ms→Int→Int→Prop}(h:Jt E S0 sv1 ov1 w1 P w)(hf:Frq E sv0 ov0 w0 sv1 ov1 w1):Jt E S0 sv0 ov0 w0 P w:=by
 obtain⟨sv',ov',S',k,i,hm,hg,hk,hq⟩:=h;exact⟨sv',ov',S',k,i,hm,hf.trans hg,hk,hq⟩
theorem Jt.wk{sv0 ov0:Value}{w0:World}{P Q:Ms→Int→Int→Prop}(h:Jt E S0 sv0 ov0 w0 P w)(hpq:∀ S k i,P S k i→Q S k i):Jt E S0 sv0 ov0 w0 Q w:=by
 obtain⟨sv',ov',S',k,i,hm,hg,hk,hq⟩:=h;exact⟨sv',ov',S',k,i,hm,hg,hk,hpq _ _ _ hq⟩
theorem sK{n:Nat}(S:Ms)(k i:Int)(h:Full 0 n S k i)(hs:S.sp≤4096):k=5∧i=0:=by
 rcases h.2 with h|h
 ·exact h
 ·omega
theorem Dl(S:Ms)(k i:Int)(h:jB 0 S k i)(hs:S.sp≤4096):k=5∧i=0:=by
 rcases h with h|h
 ·exact h
 ·omega
theorem H9(X:Ms)(j:Nat):(zs X j).sp=X.sp+j:=by
 induction j with
 | zero=>rfl
 | succ j ih=>show(zs X j).sp+1=_;rw[ih];omega
theorem Ia(X:Ms)(v:Int)(j:Nat):zs {X with fp:=v} j={zs X j with fp:=v}:=by
 induction j with
 | zero=>rfl
 | succ j ih=>
  show psh (zs {X with fp:=v} j) 0=_;rw[ih];rfl
theorem IJ(k:Nat)(s im ax bk sz:Int)(h:Mq E sv ov S S.sp 0 0 w)(hk:k < 8)(hm:U16 im):
 Calls Tryz.prog 67 #[.pointer (some ⟨E.b,0,none⟩),.agg #[.int .i64 5,.int .i64 (k:Int),.int .i64 s,.int .u16 im,.int .u16 ax,.int .i64 bk,.int .i64 sz]] w (PsE E sv ov S w (iE S)):=by
 obtain⟨n0,n1,n2,n3,n4,n5,n6⟩:=aG w 5 k s im ax bk sz;have HB:=Nc (heap_alloc_new w (.cells #[.int .i64 5,.int .i64 (k:Int),.int .i64 s,.int .u16 im,.int .u16 ax,.int .i64 bk,.int .i64 sz] 58));have H:=Nc (h.alloc (.cells #[.int .i64 5,.int .i64 (k:Int),.int .i64 s,.int .u16 im,.int .u16 ax,.int .i64 bk,.int .i64 sz] 58));have HF:=Nc ((Frq.refl E sv ov w).alloc (.cells #[.int .i64 5,.int .i64 (k:Int),.int .i64 s,.int .u16 im,.int .u16 ax,.int .i64 bk,.int .i64 sz] 58));have hne:E.b≠w.heap.size:=by have:=h.lt;omega
 have hk8:(k:Int) < 8:=by omega
 have cR:=H.out.cR k hk;obtain⟨a0,a1⟩:=h.ok.r k hk;have HR:=Nc (h.ok.r k hk);have hf:=H.out.frz;have c17:=H.out.at 17 (.int .u16 S.fp) rfl;obtain⟨p0,p1⟩:=h.ok.fp;have hsp:=h.ok.sp;have hsp':(S.sp:Int)≤4096:=by omega
 have hw3:IntKind.i64.wrap S.fp=S.fp:=IntWalk.i64_in _ (by omega);by_cases hq:0 < S.fp∧S.fp≤(S.sp:Int)
 ·have e:iE S= .ok {S with fp:=S.stk (S.fp.toNat-1),sp:=S.fp.toNat-1}:=by unfold iE;rw[if_pos hq]
  rw[e];obtain⟨g,c,hv,hc,hcm⟩:=h.st.pos (by omega);subst hv;have c24:=H.out.at 24 (.slice (some ⟨g,0,none⟩) S.sp c) rfl;have HC:=Nc (H.out.cut S.fp.toNat (.inl (by omega)) (by omega));have HP:=Nc (fun W (hm:Mq E (.slice (some ⟨g,0,none⟩) S.fp.toNat c) ov {S with sp:=S.fp.toNat} S.sp 0 0 W)=>jJ hm (show 0 < S.fp.toNat by omega));have HS:=Nc (fun sv' W (hm:Mq E sv' ov {S with sp:=S.fp.toNat-1} S.sp 0 0 W)=>hm.kW (S.stk (S.fp.toNat-1)) (h.ok.stk _ (by omega)));have HU:=Nc (fun sv' W (hm:Mq E sv' ov {S with sp:=S.fp.toNat-1} S.sp 0 0 W)=>hm.at 17 (.int .u16 S.fp) rfl);have HFc:=Nc ((HF.out.cut (n:=S.fp.toNat)).set 24 (.slice (some ⟨g,0,none⟩) S.fp.toNat c));have f1:decide ((S.sp:Int) < S.fp)=false:=by simp;omega
  have f3:(S.fp==0)=false:=by simp;omega
  have f4:S.fp≤(c:Int):=by omega
  obtain⟨a,ha⟩:∃ a,S.stk (S.fp.toNat-1)=a:=⟨_,rfl⟩;rw[ha] at HS⊢;have HP2:Hid (∀ W,Mq E (.slice (some ⟨g,0,none⟩) S.fp.toNat c) ov {S with sp:=S.fp.toNat} S.sp 0 0 W→Calls Tryz.prog 118 #[.pointer (some ⟨E.b,0,none⟩)] W fun e w'=>e= .returned (.int .u16 a)∧∃ sv',Mq E sv' ov {S with sp:=S.fp.toNat-1} S.sp 0 0 w'∧Frq E (.slice (some ⟨g,0,none⟩) S.fp.toNat c) ov W sv' ov w'):=Nc (fun W hm=>ha▸HP.out W hm);clear h e ha hq hsp hsp' hc cR a0 a1 HP hcm p1;go_enter Tryz.func67,Tryz.ntmps67
  go_wp2_with fail
  go_region
  go_wp2_with fail
  go_region
  go_wp2_with fail
  refine(HP2.out _ (by first | exact HC.out.drew.drew | exact HC.out.drew | exact HC.out)).mono ?_;rintro e w' ⟨rfl,sv',hm',hf'⟩;have HX:=Nc (And.intro hm' hf');have mf:=hm'.frz;have mc:=HU.out _ _ hm';clear hm' hf';go_wp2_with fail
  refine bodyPost_ret (results_none rfl _ _ _) rfl ?_;exact PsE.okk rfl rfl (HS.out _ _ HX.out.1) (((by first | exact HFc.out.drew.drew | exact HFc.out.drew | exact HFc.out:Frq E _ ov w _ ov _).trans HX.out.2).set _ _)
 ·have e:iE S= .tr 5 0:=by unfold iE;rw[if_neg hq]
  rw[e];have HFl:=Nc (fun W (hm:Mq E sv ov S S.sp 0 0 W)=>dG 5 0 hm);obtain⟨p,c,hv⟩:=h.st0;subst hv;have c24:=H.out.at 24 (.slice p S.sp c) rfl;have hx:S.fp=0∨(¬ S.fp=0∧(S.sp:Int) < S.fp):=by omega
  clear h e hq hsp hsp' cR a0 a1;rcases hx with hx|⟨hx,hx2⟩
  ·rw[hx] at c17
   clear hx;go_enter Tryz.func67,Tryz.ntmps67
   go_wp2_with fail
   go_region
   go_wp2_with fail
   refine(HFl.out _ (by first | exact H.out | exact H.out.drew)).mono ?_;rintro e w' ⟨rfl,hm',hf'⟩;have HX:=Nc (And.intro hm' hf');clear hm' hf';go_wp2_with fail
   refine bodyPost_ret (results_none rfl _ _ _) rfl ?_;exact PsE.trr rfl rfl HX.out.1 (Kp.refl S) (HF.out.trans (by first | exact HX.out.2 | exact(Frq.below (Below.refl _ _).drew).trans HX.out.2))
  ·have hx3:(S.fp==0)=false:=by simpa using hx
   have hx4:decide ((S.sp:Int) < S.fp)=true:=by simpa using hx2
   clear hx;go_enter Tryz.func67,Tryz.ntmps67
   go_wp2_with fail
   go_region
   go_wp2_with fail
   refine(HFl.out _ (by first | exact H.out | exact H.out.drew)).mono ?_;rintro e w' ⟨rfl,hm',hf'⟩;have HX:=Nc (And.intro hm' hf');clear hm' hf';go_wp2_with fail
   refine bodyPost_ret (results_none rfl _ _ _) rfl ?_;exact PsE.trr rfl rfl HX.out.1 (Kp.refl S) (HF.out.trans (by first | exact HX.out.2 | exact(Frq.below (Below.refl _ _).drew).trans HX.out.2))
theorem FN(k:Nat)(s im ax bk sz:Int)(h:Mq E sv ov S S.sp 0 0 w)(hk:k < 8)(hm:U16 im):
 Calls Tryz.prog 67 #[.pointer (some ⟨E.b,0,none⟩),.agg #[.int .i64 21,.int .i64 (k:Int),.int .i64 s,.int .u16 im,.int .u16 ax,.int .i64 bk,.int .i64 sz]] w (PsE E sv ov S w (lu S im)):=by
 obtain⟨n0,n1,n2,n3,n4,n5,n6⟩:=aG w 21 k s im ax bk sz;have HB:=Nc (heap_alloc_new w (.cells #[.int .i64 21,.int .i64 (k:Int),.int .i64 s,.int .u16 im,.int .u16 ax,.int .i64 bk,.int .i64 sz] 58));have H:=Nc (h.alloc (.cells #[.int .i64 21,.int .i64 (k:Int),.int .i64 s,.int .u16 im,.int .u16 ax,.int .i64 bk,.int .i64 sz] 58));have HF:=Nc ((Frq.refl E sv ov w).alloc (.cells #[.int .i64 21,.int .i64 (k:Int),.int .i64 s,.int .u16 im,.int .u16 ax,.int .i64 bk,.int .i64 sz] 58));have hne:E.b≠w.heap.size:=by have:=h.lt;omega
 have hk8:(k:Int) < 8:=by omega
 have cR:=H.out.cR k hk;obtain⟨a0,a1⟩:=h.ok.r k hk;have HR:=Nc (h.ok.r k hk);have hf:=H.out.frz;have hsp:=h.ok.sp;obtain⟨m0,m1⟩:=hm;obtain⟨m,rfl⟩:∃ m:Nat,im=m:=⟨im.toNat,by omega⟩;have n3':∀ wr:World,wr.heap[w.heap.size]? =some (.cells #[.int .i64 21,.int .i64 (k:Int),.int .i64 s,.int .u16 (m:Int),.int .u16 ax,.int .i64 bk,.int .i64 sz] 58 (0,0))→wr.cell? ⟨w.heap.size,3,none⟩=some (.int .u16 (m:Int)):=fun wr hb=>ae hb 3 _ rfl
 have HN:=Nc n3';clear n3' cR a0 a1;by_cases hq:(m:Int)≤(S.sp:Int)
 ·have e:lu S m= .ok {S with sp:=S.sp-m}:=by unfold lu;rw[if_pos hq];rfl
  rw[e];have HQ:=Nc (show m≤S.sp by omega);clear h e hq hsp;go_enter Tryz.func67,Tryz.ntmps67
  go_wp2_with fail
  go_loopw [7] (fun i wr=>∃ j:Nat,j≤m∧i= .int .i64 j∧Hid (∃ sv',Mq E sv' ov {S with sp:=S.sp-j} S.sp 0 0 wr∧Frq E sv ov _ sv' ov wr)) (fun i _=>m-(intOf i).toNat)
  case atStart=>exact⟨0,Nat.zero_le _,rfl,Nc ⟨sv,H.out,Frq.refl _ _ _ _⟩⟩
  case round=>
   obtain⟨j,hj,rfl,HK⟩:=hrel;obtain⟨sv',hm',hf'⟩:=HK.out;have c3:=HN.out _ (hf'.keep H.out HB.out);have mf:=hm'.frz;by_cases hlt:j < m
   ·have hlt':(j:Int) < (m:Int):=by omega
    have HP:=Nc (jJ hm' (show 0 < S.sp-j by have:=HQ.out;omega));have HK':=Nc hf';clear hm' hf';go_wp2_with fail
    refine HP.out.mono ?_;rintro e w' ⟨rfl,sv2,hm2,hf2⟩;have HX:=Nc (show ∃ sv',Mq E sv' ov {S with sp:=S.sp-(j+1)} S.sp 0 0 w'∧Frq E sv ov _ sv' ov w' from⟨sv2,hm2,HK'.out.trans hf2⟩);clear hm2 hf2;go_wp2_with fail
    go_roundw
    case rel=>exact⟨j+1,by omega,by go_num,HX⟩
    case measure=>simp[intOf];omega
   ·have hlt':¬ (j:Int) < (m:Int):=by omega
    obtain rfl:j=m:=by omega
    have HK':=Nc (And.intro hm' hf');clear hm' hf';go_wp2_with fail
    refine bodyPost_ret (results_none rfl _ _ _) rfl ?_;exact PsE.okk rfl rfl HK'.out.1 (HF.out.trans HK'.out.2)
 ·have e:lu S m= .tr 5 0:=by unfold lu;rw[if_neg hq]
  rw[e];have HQ:=Nc (show S.sp < m by omega);clear h e hq hsp;go_enter Tryz.func67,Tryz.ntmps67
  go_wp2_with fail
  go_loopw [7] (fun i wr=>∃ j:Nat,j≤m∧i= .int .i64 j∧Hid (Jt E S sv ov _ (jB (m-j)) wr)) (fun i _=>m-(intOf i).toNat)
  case atStart=>exact⟨0,Nat.zero_le _,rfl,Nc ⟨sv,ov,S,0,0,H.out,Frq.refl _ _ _ _,Kp.refl S,.inr ⟨rfl,rfl,HQ.out⟩⟩⟩
  case round=>
   obtain⟨j,hj,rfl,HK⟩:=hrel;have c3:=HN.out _ (HK.out.keep H.out HB.out);by_cases hlt:j < m
   ·have hlt':(j:Int) < (m:Int):=by omega
    have HP:=Nc (jI (m-(j+1)) (show Jt E S sv ov _ (jB (m-(j+1)+1)) wr by rw[show m-(j+1)+1=m-j by omega];exact HK.out));go_wp2_with fail
    refine HP.out.mono ?_;rintro e w' ⟨⟨v,_,rfl⟩,hJ⟩;have HX:=Nc hJ;clear hJ;go_wp2_with fail
    go_roundw
    case rel=>exact⟨j+1,by omega,by go_num,HX⟩
    case measure=>simp[intOf];omega
   ·have hlt':¬ (j:Int) < (m:Int):=by omega
    obtain rfl:j=m:=by omega
    go_wp2_with fail
    refine bodyPost_ret (results_none rfl _ _ _) rfl ?_;exact PsE.jt rfl rfl ((HK.out.wk (fun S k i hp=>by rw[Nat.sub_self] at hp;exact hp)).pre HF.out) Dl
theorem FO(k:Nat)(s im ax bk sz:Int)(h:Mq E sv ov S S.sp 0 0 w)(hk:k < 8)(hm:U16 im):
 Calls Tryz.prog 67 #[.pointer (some ⟨E.b,0,none⟩),.agg #[.int .i64 20,.int .i64 (k:Int),.int .i64 s,.int .u16 im,.int .u16 ax,.int .i64 bk,.int .i64 sz]] w (PsE E sv ov S w (iG S im)):=by
 obtain⟨n0,n1,n2,n3,n4,n5,n6⟩:=aG w 20 k s im ax bk sz;have HB:=Nc (heap_alloc_new w (.cells #[.int .i64 20,.int .i64 (k:Int),.int .i64 s,.int .u16 im,.int .u16 ax,.int .i64 bk,.int .i64 sz] 58));have H:=Nc (h.alloc (.cells #[.int .i64 20,.int .i64 (k:Int),.int .i64 s,.int .u16 im,.int .u16 ax,.int .i64 bk,.int .i64 sz] 58));have HF:=Nc ((Frq.refl E sv ov w).alloc (.cells #[.int .i64 20,.int .i64 (k:Int),.int .i64 s,.int .u16 im,.int .u16 ax,.int .i64 bk,.int .i64 sz] 58));have hne:E.b≠w.heap.size:=by have:=h.lt;omega
 have hk8:(k:Int) < 8:=by omega
 have cR:=H.out.cR k hk;obtain⟨a0,a1⟩:=h.ok.r k hk;have HR:=Nc (h.ok.r k hk);have hf:=H.out.frz;have hsp:=h.ok.sp;obtain⟨m0,m1⟩:=hm;obtain⟨m,rfl⟩:∃ m:Nat,im=m:=⟨im.toNat,by omega⟩;have n3':∀ wr:World,wr.heap[w.heap.size]? =some (.cells #[.int .i64 20,.int .i64 (k:Int),.int .i64 s,.int .u16 (m:Int),.int .u16 ax,.int .i64 bk,.int .i64 sz] 58 (0,0))→wr.cell? ⟨w.heap.size,3,none⟩=some (.int .u16 (m:Int)):=fun wr hb=>ae hb 3 _ rfl
 have HN:=Nc n3';have c17:=H.out.at 17 (.int .u16 S.fp) rfl;obtain⟨p,c,hv⟩:=h.st0;have c24:=H.out.at 24 sv rfl;rw[hv] at c24;have hw5:IntKind.u16.wrap ((S.sp:Int)+1)=(S.sp:Int)+1:=by rw[IntKind.wrap_u16];omega
 have hsp':(S.sp:Int)≤4096:=by omega
 have HU:=Nc h.ok.fp;clear n3' cR a0 a1;by_cases hq:(S.sp:Int)+1+m≤4096
 ·have e:iG S m= .ok {zs (psh S S.fp) m with fp:=S.sp+1}:=by unfold iG;rw[if_pos hq,Ia];rfl
  rw[e];have HP:=Nc (fB S.fp H.out (Nat.le_refl _) (by omega) HU.out);have HQ:=Nc (show S.sp+1+m≤4096 by omega);have HFp:=Nc (fun sv' W (hm:Mq E sv' ov (zs (psh S S.fp) m) S.sp 0 0 W)=>hm.kW ((S.sp:Int)+1) ⟨by omega,by omega⟩);have HFc:=Nc (fun sv' W (hm:Mq E sv' ov (zs (psh S S.fp) m) S.sp 0 0 W)=>hm.at 17 (.int .u16 (zs (psh S S.fp) m).fp) rfl);clear h e hq hsp hv;go_enter Tryz.func67,Tryz.ntmps67
  go_wp2_with fail
  refine HP.out.mono ?_;rintro e w1 ⟨rfl,sv1,hm1,hf1⟩;have H1:=Nc (And.intro hm1 hf1);clear hm1 hf1;go_wp2_with fail
  go_loopw [6] (fun i wr=>∃ j:Nat,j≤m∧i= .int .i64 j∧Hid (∃ sv',Mq E sv' ov (zs (psh S S.fp) j) S.sp 0 0 wr∧Frq E sv ov _ sv' ov wr)) (fun i _=>m-(intOf i).toNat)
  case atStart=>exact⟨0,Nat.zero_le _,rfl,Nc ⟨sv1,H1.out.1,H1.out.2⟩⟩
  case round=>
   obtain⟨j,hj,rfl,HK⟩:=hrel;obtain⟨sv',hm',hf'⟩:=HK.out;have c3:=HN.out _ (hf'.keep H.out HB.out);have mf:=hm'.frz;by_cases hlt:j < m
   ·have hlt':(j:Int) < (m:Int):=by omega
    have hs1:=H9 (psh S S.fp) j;have HP2:=Nc (fB 0 hm' (by rw[hs1];show S.sp≤S.sp+1+j;omega) (by rw[hs1];have:=HQ.out;show S.sp+1+j < 4096;omega) ⟨by decide,by decide⟩);have HK':=Nc hf';clear hm' hf' hs1;go_wp2_with fail
    refine HP2.out.mono ?_;rintro e w' ⟨rfl,sv2,hm2,hf2⟩;have HX:=Nc (show ∃ sv',Mq E sv' ov (zs (psh S S.fp) (j+1)) S.sp 0 0 w'∧Frq E sv ov _ sv' ov w' from⟨sv2,hm2,HK'.out.trans hf2⟩);clear hm2 hf2;go_wp2_with fail
    go_roundw
    case rel=>exact⟨j+1,by omega,by go_num,HX⟩
    case measure=>simp[intOf];omega
   ·have hlt':¬ (j:Int) < (m:Int):=by omega
    obtain rfl:j=m:=by omega
    have HK':=Nc (And.intro hm' hf');have c17':=HFc.out _ _ hm';have HY:=Nc (HFp.out _ _ hm');clear hm' hf' HFc HFp;go_wp2_with fail
    refine bodyPost_ret (results_none rfl _ _ _) rfl ?_;exact PsE.okk rfl rfl HY.out ((HF.out.trans HK'.out.2).set _ _)
 ·have e:iG S m= .tr 5 0:=by unfold iG;rw[if_neg hq]
  rw[e];have HQ:=Nc (show 4096 < S.sp+(m+1) by omega);have HP:=Nc (fU S.fp m (show Jt E S sv ov _ (Full (m+1) S.sp) _ from⟨sv,ov,S,0,0,H.out,Frq.refl _ _ _ _,Kp.refl S,Nat.le_refl _,.inr ⟨rfl,rfl,HQ.out⟩⟩) HU.out);have hwU:U16 ((S.sp:Int)+1):=⟨by omega,by omega⟩;have HW:=Nc hwU;clear h e hq hsp hv hwU;go_enter Tryz.func67,Tryz.ntmps67
  go_wp2_with fail
  refine HP.out.mono ?_;rintro e w1 ⟨rfl,hJ1⟩;have HJ1:=Nc hJ1;clear hJ1;go_wp2_with fail
  go_loopw [6] (fun i wr=>∃ j:Nat,j≤m∧i= .int .i64 j∧Hid (Jt E S sv ov _ (Full (m-j) S.sp) wr)) (fun i _=>m-(intOf i).toNat)
  case atStart=>exact⟨0,Nat.zero_le _,rfl,HJ1⟩
  case round=>
   obtain⟨j,hj,rfl,HK⟩:=hrel;have c3:=HN.out _ (HK.out.keep H.out HB.out);by_cases hlt:j < m
   ·have hlt':(j:Int) < (m:Int):=by omega
    have HP2:=Nc (fU 0 (m-(j+1)) (show Jt E S sv ov _ (Full (m-(j+1)+1) S.sp) wr by rw[show m-(j+1)+1=m-j by omega];exact HK.out) ⟨by decide,by decide⟩);go_wp2_with fail
    refine HP2.out.mono ?_;rintro e w' ⟨rfl,hJ⟩;have HX:=Nc hJ;clear hJ;go_wp2_with fail
    go_roundw
    case rel=>exact⟨j+1,by omega,by go_num,HX⟩
    case measure=>simp[intOf];omega
   ·have hlt':¬ (j:Int) < (m:Int):=by omega
    obtain rfl:j=m:=by omega
    obtain⟨sv',ov',S',k',i',hm',hf',hk',hq'⟩:=HK.out;obtain⟨rfl,rfl⟩:=sK S' k' i' (by rw[Nat.sub_self] at hq';exact hq') hm'.ok.sp;have c17':=hm'.at 17 (.int .u16 S'.fp) rfl;have mf:=hm'.frz;have HY:=Nc (And.intro (hm'.kW ((S.sp:Int)+1) HW.out) (And.intro hf' hk'));clear hm' hf' hk' hq';go_wp2_with fail
    refine bodyPost_ret (results_none rfl _ _ _) rfl ?_;exact PsE.trr rfl rfl HY.out.1 ⟨HY.out.2.2.ram,HY.out.2.2.out,HY.out.2.2.stk⟩ ((HF.out.trans HY.out.2.1).set _ _)
end
end Go.Proofs.YthkcloapiefggaaGreatDoor
