import Derived.Test.YthkcloapiefggaaGreatDoorQRqk
namespace Go.Proofs.YthkcloapiefggaaGreatDoor
set_option linter.unusedVariables false
set_option linter.unusedSimpArgs false
set_option maxRecDepth 100000
set_option maxHeartbeats 1000000
open Go.ChangeShapes Go.WideShapes Go.RowKit
section
variable {E:Qe} {sv ov:Value} {S S0:Ms} {d:Nat} {k i:Int} {w:World}
theorem PsE.e{R:Rs}{e:Ending}{w':World}(h:PsE E sv ov S w R e w'):e= .returned (.tuple #[]):=by
 cases R with
 | ok S'=>exact h.1
 | tr k i=>exact h.1
theorem PsE.next{R R':Rs}{N:Ms}{e:Ending}{w1 w':World}(h:PsE E sv ov N w1 R e w')(hf:Frq E sv ov w sv ov w1)(hk:Kp S N)(hs:N.sp=S.sp)(hR:R'=R):PsE E sv ov S w R' e w':=by
 subst hR;cases R' with
 | ok S'=>
  obtain⟨h1,sv',ov',h2,h3⟩:=h;exact⟨h1,sv',ov',hs▸h2,hf.trans h3⟩
 | tr k i=>
  obtain⟨h1,sv',ov',S',h2,h3,h4⟩:=h;exact⟨h1,sv',ov',S',hs▸h2,⟨h3.ram.trans hk.ram,h3.out.trans hk.out,fun j hj=>(h3.stk j (by omega)).trans (hk.stk j hj)⟩,hf.trans h4⟩
theorem Gw{I:Im}{T:Tp}{S:Ms}{op d s im ax bk sz:Int}(h:96≤op∧op≤125):exP I T ⟨op,d,s,im,ax,bk,sz⟩ S= .ok (if dZ (op%16) S.f=true then jmp S im else S):=by
 unfold exP;simp only;repeat rw[if_neg (by omega)]
 rw[if_pos (by omega)]
theorem y7{I:Im}{T:Tp}{S:Ms}{op d s im ax bk sz q:Int}(h:(48≤op∧op≤62)∨(64≤op∧op≤78))(hq:q=32+op%16):exP I T ⟨op,d,s,im,ax,bk,sz⟩ S=arP S q d im:=by
 subst hq;unfold exP;simp only;repeat rw[if_neg (by omega)]
 rw[if_pos (by omega)]
theorem Gu{I:Im}{T:Tp}{S:Ms}{op d im ax bk sz:Int}{j:Nat}(h:32≤op∧op≤46):exP I T ⟨op,d,(j:Int),im,ax,bk,sz⟩ S=arP S op d (S.r j):=by
 unfold exP;simp only;repeat rw[if_neg (by omega)]
 rfl
theorem Hq(a b f:Int):arR 18 a b f=oJ 0 a true:=by
 unfold arR;repeat rw[if_neg (by omega)]
 rw[if_pos rfl]
theorem Es(a b f:Int):arR 19 a b f=65535-a:=by
 unfold arR;repeat rw[if_neg (by omega)]
theorem Hu(a b f:Int):arF 18 a b f=oK 0 a true:=by
 unfold arF;repeat rw[if_neg (by omega)]
 rw[if_pos rfl]
theorem Hr(a b f:Int):arF 19 a b f=iD f (65535-a):=by
 unfold arF;repeat rw[if_neg (by omega)]
 rw[Es]
theorem Gv{I:Im}{T:Tp}(S:Ms)(op:Int)(k:Nat)(j:Nat)(im ax bk sz:Int)(h:op=18∨op=19:=by decide):exP I T ⟨op,k,j,im,ax,bk,sz⟩ S=arP S op k (S.r k):=by
 have e:∀ b,arP S op k b=arP S op k (S.r k):=fun b=>by
  unfold arP;rcases h with rfl|rfl
  ·rw[if_neg (by omega),if_neg (by omega),Hq,Hq,Hu,Hu]
  ·rw[if_neg (by omega),if_neg (by omega),Es,Es,Hr,Hr]
 rw[← e (S.r j)];unfold exP;simp only;repeat rw[if_neg (by omega)]
 rfl
theorem Af{I:Im}{S:Ms}{i:Ins}(h:dI I S= .ok i)(ho:i.op=131∨i.op=132):i.bk < 64:=by
 unfold dI at h
 split at h
 ·cases h
 split at h
 ·cases h
 split at h
 ·cases h
 split at h
 ·cases h
 split at h
 ·rename_i hd
  cases h;obtain⟨h0,_,h2,_,h3⟩:=y8 hd;have hok:=D7 (cdV I (plB S S.pc) S.pc (row (cbV I S S.pc)).z);have hv:rV (fD (cdV I (plB S S.pc) S.pc (row (cbV I S S.pc)).z))=true:=by rw[← valid_eq _ hok];simp[je,h0]
  obtain⟨j,hj⟩:∃ j,fD (cdV I (plB S S.pc) S.pc (row (cbV I S S.pc)).z)=j:=⟨_,rfl⟩;rw[hj] at hv ho⊢;have hf:rF j.op=12:=by rcases ho with c | c<;>rw[c]<;>decide
  unfold rV at hv;rw[hf,if_neg (by decide)] at hv
  split at hv
  ·have hk:rK 12 j=(j.d==0 && j.s==0 && j.ax==0 && bkB j.bk):=rfl
   rw[hk] at hv;simp only[Bool.and_eq_true] at hv;have:=hv.2;unfold bkB at this;simp at this;omega
  ·cases hv
 ·cases h
set_option maxHeartbeats 4000000 in
theorem rY(h:Mq E sv ov S S.sp 0 0 w)(hl:iK S.out):
 Calls Tryz.prog 41 #[.pointer (some ⟨E.b,0,none⟩)] w (PsE E sv ov S w (eQ E.I E.T S)):=by
 have HF:=Nc (xu h);have HST:=Nc (show eQ E.I E.T S=match dI E.I S with | .tr k n=> .tr k n | .ok i=>exP E.I E.T i (kC S i) from rfl);obtain⟨R,hR⟩:∃ R,dI E.I S=R:=⟨_,rfl⟩;rw[hR] at HF HST;cases R with
 | tr t x=>
  have ht:=(wG E.I S t x hR).1;have htb:(t != 0)=true:=by simp;omega
  have HST2:=Nc HST.out;clear HST hR h;go_enter Tryz.func41,Tryz.ntmps41
  go_wp2_with fail
  refine HF.out.mono ?_;rintro e w1 ⟨⟨j,rfl⟩,hm,hf⟩;have H1:=Nc (hm.alloc (.cells #[.int .i64 j.op,.int .i64 j.d,.int .i64 j.s,.int .u16 j.im,.int .u16 j.ax,.int .i64 j.bk,.int .i64 j.sz] 58));have F1:=Nc (hf.alloc (.cells #[.int .i64 j.op,.int .i64 j.d,.int .i64 j.s,.int .u16 j.im,.int .u16 j.ax,.int .i64 j.bk,.int .i64 j.sz] 58));have c26:=hm.at 26 (.int .i64 t) rfl;have hlt0:=hm.lt;have hne:E.b≠w1.heap.size:=by omega
  unfold dN;clear hm hf;go_wp2_with fail
  refine bodyPost_ret (results_none rfl _ _ _) rfl ?_;exact PsE.trr HST2.out rfl H1.out (Kp.refl S) F1.out
 | ok j=>
  obtain⟨hi,hkn,z0,z1⟩:=wH hR;have hfar:=Af hR;have HST2:=Nc (show eQ E.I E.T S=exP E.I E.T j (kC S j) from HST.out);have hsteps:=h.ok.steps;obtain⟨q0,q1⟩:=h.ok.pc;clear HST hR;obtain⟨op,d,s,im,ax,bk,sz⟩:=j;simp only at hkn z0 z1 hfar;have w64:IntKind.i64.wrap (S.steps+1)=wrap64 (S.steps+1):=IntWalk.i64_left _;have hw1:IntKind.u16.wrap (S.pc+IntKind.u16.wrap sz)=(S.pc+sz)%65536:=by rw[IntKind.wrap_u16,IntKind.wrap_u16];omega
  have hw2:IntKind.u16.wrap (S.pc+sz)=(S.pc+sz)%65536:=by rw[IntKind.wrap_u16]
  have HL:=Nc hl;clear h hl;go_enter Tryz.func41,Tryz.ntmps41
  go_wp2_with fail
  refine HF.out.mono ?_;rintro e w1 ⟨rfl,hm,hf⟩;have H1:=Nc (hm.alloc (.cells #[.int .i64 op,.int .i64 d,.int .i64 s,.int .u16 im,.int .u16 ax,.int .i64 bk,.int .i64 sz] 58));have F1:=Nc (hf.alloc (.cells #[.int .i64 op,.int .i64 d,.int .i64 s,.int .u16 im,.int .u16 ax,.int .i64 bk,.int .i64 sz] 58));have B1:=Nc (heap_alloc_new w1 (.cells #[.int .i64 op,.int .i64 d,.int .i64 s,.int .u16 im,.int .u16 ax,.int .i64 bk,.int .i64 sz] 58));have c26:=hm.at 26 (.int .i64 0) rfl;have c15:=hm.at 15 (.int .u16 S.pc) rfl;have c20:=hm.at 20 (.int .i64 S.steps) rfl;have g1:=H1.out.frz;have g2:=hm.frz;unfold dN;have HM0:=Nc hm;have HF0:=Nc hf;have hlt1:=hm.lt;have hne:E.b≠w1.heap.size:=by omega
  clear hm hf;go_upto_region 2 with fail
  go_region
  go_upto_region 5 with fail
  obtain⟨k,rfl⟩:∃ k:Nat,d=k:=⟨d.toNat,by have:0≤d:=hi.d0;omega⟩;obtain⟨j,rfl⟩:∃ j:Nat,s=j:=⟨s.toNat,by have:0≤s:=hi.s0;omega⟩;have hk:k < 8:=by have:(k:Int) < 8:=hi.d1;omega
  have hj:j < 8:=by have:(j:Int) < 8:=hi.s1;omega
  have hm:U16 im:=⟨hi.ok.m0,hi.ok.m1⟩;have hx:U16 ax:=⟨hi.ok.a0,hi.ok.a1⟩;have b0:0≤bk:=hi.b0;have b1:bk < 256:=hi.b1;obtain⟨N,hN⟩:∃ N,kC S ⟨op,k,j,im,ax,bk,sz⟩=N:=⟨_,rfl⟩;have hNe:N={S with steps:=wrap64 (S.steps+1),pc:=(S.pc+sz)%65536}:=by rw[← hN,← w64];rfl
  have hsp:N.sp=S.sp:=by rw[hNe]
  have hNp:N.pc=(S.pc+sz)%65536:=by rw[hNe]
  have HKp:=Nc (show Kp S N by rw[hNe];exact⟨rfl,rfl,fun _ _=>rfl⟩);have HNo:=Nc (show iK N.out by rw[hNe];exact HL.out);have H2:=Nc (show Mq E sv ov N N.sp 0 0 ((((w1.setCell ⟨E.b,15,none⟩ (.int .u16 ((S.pc+sz)%65536))).setCell ⟨E.b,20,none⟩ (.int .i64 (wrap64 (S.steps+1)))).alloc (.cells #[.int .i64 op,.int .i64 (k:Int),.int .i64 (j:Int),.int .u16 im,.int .u16 ax,.int .i64 bk,.int .i64 sz] 58)).drew) by
   rw[hsp,hNe];exact((((HM0.out.dF _ (dU _)).lT _ (by unfold wrap64 I64;omega)).alloc _).drew))
  have F2:=Nc (show Frq E sv ov w sv ov ((((w1.setCell ⟨E.b,15,none⟩ (.int .u16 ((S.pc+sz)%65536))).setCell ⟨E.b,20,none⟩ (.int .i64 (wrap64 (S.steps+1)))).alloc (.cells #[.int .i64 op,.int .i64 (k:Int),.int .i64 (j:Int),.int .u16 im,.int .u16 ax,.int .i64 bk,.int .i64 sz] 58)).drew) from(((HF0.out.set 15 _).set 20 _).alloc _).drew);have I2:=aG ((w1.setCell ⟨E.b,15,none⟩ (.int .u16 ((S.pc+sz)%65536))).setCell ⟨E.b,20,none⟩ (.int .i64 (wrap64 (S.steps+1)))) op k j im ax bk sz;rw[show((w1.setCell ⟨E.b,15,none⟩ (.int .u16 ((S.pc+sz)%65536))).setCell ⟨E.b,20,none⟩ (.int .i64 (wrap64 (S.steps+1)))).heap.size=w1.heap.size by simp] at I2;have I3:((((w1.setCell ⟨E.b,15,none⟩ (.int .u16 ((S.pc+sz)%65536))).setCell ⟨E.b,20,none⟩ (.int .i64 (wrap64 (S.steps+1)))).alloc (.cells #[.int .i64 op,.int .i64 (k:Int),.int .i64 (j:Int),.int .u16 im,.int .u16 ax,.int .i64 bk,.int .i64 sz] 58)).drew).cell? ⟨w1.heap.size,0,none⟩=some (.int .i64 op)∧((((w1.setCell ⟨E.b,15,none⟩ (.int .u16 ((S.pc+sz)%65536))).setCell ⟨E.b,20,none⟩ (.int .i64 (wrap64 (S.steps+1)))).alloc (.cells #[.int .i64 op,.int .i64 (k:Int),.int .i64 (j:Int),.int .u16 im,.int .u16 ax,.int .i64 bk,.int .i64 sz] 58)).drew).cell? ⟨w1.heap.size,1,none⟩=some (.int .i64 (k:Int))∧_∧_∧_∧_∧_:=I2;obtain⟨W2,hW2⟩:∃ W2,((((w1.setCell ⟨E.b,15,none⟩ (.int .u16 ((S.pc+sz)%65536))).setCell ⟨E.b,20,none⟩ (.int .i64 (wrap64 (S.steps+1)))).alloc (.cells #[.int .i64 op,.int .i64 (k:Int),.int .i64 (j:Int),.int .u16 im,.int .u16 ax,.int .i64 bk,.int .i64 sz] 58)).drew)=W2:=⟨_,rfl⟩;have I4:W2.cell? ⟨w1.heap.size,0,none⟩=some (.int .i64 op)∧W2.cell? ⟨w1.heap.size,1,none⟩=some (.int .i64 (k:Int))∧W2.cell? ⟨w1.heap.size,2,none⟩=some (.int .i64 (j:Int))∧W2.cell? ⟨w1.heap.size,3,none⟩=some (.int .u16 im)∧W2.cell? ⟨w1.heap.size,4,none⟩=some (.int .u16 ax)∧W2.cell? ⟨w1.heap.size,5,none⟩=some (.int .i64 bk)∧W2.cell? ⟨w1.heap.size,6,none⟩=some (.int .i64 sz):=hW2▸I3;obtain⟨r0,r1,r2,r3,r4,r5,r6⟩:=I4;rw[hW2] at H2 F2⊢;rw[← hNp];have hS:eQ E.I E.T S=exP E.I E.T ⟨op,k,j,im,ax,bk,sz⟩ N:=by rw[← hN];exact HST2.out
  have HS:=Nc hS;have HSp:=Nc hsp;obtain⟨p,hp⟩:∃ p,N.pc=p:=⟨_,rfl⟩;have HPp:=Nc hp;rw[hp];have cRj:=H2.out.cR j hj;have hj8:(j:Int) < 8:=by omega
  have hk8:(k:Int) < 8:=by omega
  have HUj:=Nc (H2.out.ok.r j hj);obtain⟨nb,hnb⟩:∃ nb,w1.heap.size=nb:=⟨_,rfl⟩;rw[hnb] at r0 r1 r2 r3 r4 r5 r6 hne⊢;have HFar:=Nc hfar;clear HST2 hi hN hNe hNp HM0 HF0 I2 I3 hS hsp hp w64 hw1 hw2 hsteps HF H1 F1 B1 c26 c15 c20 g1 g2 hlt1 q0 q1 HL hnb hW2 z0 z1;rcases sF hkn with c|c|c|rfl|rfl|rfl|rfl|rfl|rfl|rfl|rfl|rfl|rfl|rfl|rfl|rfl|rfl|rfl|rfl|rfl|rfl|rfl|rfl|rfl|rfl|rfl|rfl|rfl|rfl|rfl|rfl|rfl|rfl|rfl|rfl|rfl|rfl|rfl|rfl|rfl|rfl
  ·have HC:=Nc ((Ce op c k j im ax bk sz H2.out hk hm hx b0 b1).mono fun e w' hh=>(show PsE E sv ov N W2 (exP E.I E.T ⟨op,(k:Int),(j:Int),im,ax,bk,sz⟩ N) e w' from Gw c▸hh))
   rw[HPp.out] at HC;obtain⟨o0,o1⟩:=c;have e0:(op==0)=false:=by simp;omega
   have e2:(op==2)=false:=by simp;omega
   have e4:(op==4)=false:=by simp;omega
   have e144:(op==144)=false:=by simp;omega
   have e145:(op==145)=false:=by simp;omega
   have e20:(op==20)=false:=by simp;omega
   have e21:(op==21)=false:=by simp;omega
   have e5:(op==5)=false:=by simp;omega
   have e18:(op==18)=false:=by simp;omega
   have e19:(op==19)=false:=by simp;omega
   have e150:(op==150)=false:=by simp;omega
   have e146:(op==146)=false:=by simp;omega
   have e147:(op==147)=false:=by simp;omega
   go_wp2_with fail
   refine HC.out.mono ?_;rintro e w3 hp;obtain rfl:=hp.e;have HP:=Nc hp;clear hp;go_wp2_with fail
   go_end0
   exact PsE.next HP.out F2.out HKp.out HSp.out HS.out
  ·rcases c with c|c
   ·have HC:=Nc (((vP op k H2.out hk (by omega)).mono fun e w' hh=>PsE.of hh).mono fun e w' hh=>(show PsE E sv ov N W2 (exP E.I E.T ⟨op,(k:Int),(j:Int),im,ax,bk,sz⟩ N) e w' from(show exP E.I E.T ⟨op,(k:Int),(j:Int),im,ax,bk,sz⟩ N=arP N op k (N.r k) by rcases(show op=18∨op=19 by omega) with rfl | rfl<;>exact Gv N _ _ _ _ _ _ _)▸hh))
    rcases(show op=18∨op=19 by omega) with rfl|rfl
    all_goals
     go_wp2_with fail
     refine HC.out.mono ?_;rintro e w3 hp;obtain rfl:=hp.e;have HP:=Nc hp;clear hp;go_wp2_with fail
     go_end0
     exact PsE.next HP.out F2.out HKp.out HSp.out HS.out
   ·have HCa:=Nc (fun W (h:Mq E sv ov N N.sp 0 0 W)=>(((lD op k (N.r j) h hk HUj.out c).mono fun e w' hh=>PsE.of hh).mono fun e w' hh=>(show PsE E sv ov N W (exP E.I E.T ⟨op,(k:Int),(j:Int),im,ax,bk,sz⟩ N) e w' from Gu c▸hh)))
    obtain⟨x,hxe⟩:∃ x,N.r j=x:=⟨_,rfl⟩;rw[hxe] at HCa cRj;have e0:(op==0)=false:=by simp;omega
    have e2:(op==2)=false:=by simp;omega
    have e4:(op==4)=false:=by simp;omega
    have e144:(op==144)=false:=by simp;omega
    have e145:(op==145)=false:=by simp;omega
    have e20:(op==20)=false:=by simp;omega
    have e21:(op==21)=false:=by simp;omega
    have e5:(op==5)=false:=by simp;omega
    have e18:(op==18)=false:=by simp;omega
    have e19:(op==19)=false:=by simp;omega
    have e150:(op==150)=false:=by simp;omega
    have e146:(op==146)=false:=by simp;omega
    have e147:(op==147)=false:=by simp;omega
    obtain⟨o0,o1⟩:=c;clear hxe;go_wp2_with fail
    go_region_with ((go_at_call 69);(with_reducible refine(HCa.out _ (by first | exact H2.out | exact H2.out.drew)).mono ?_);rintro e w3 hp;obtain rfl:=hp.e;have HP:=Nc hp;clear hp)
    all_goals
     go_wp2_with fail
     go_end0
     first
     | exact PsE.next HP.out F2.out HKp.out HSp.out HS.out
     | exact PsE.next HP.out F2.out.drew HKp.out HSp.out HS.out
  ·rcases c with c|c
   ·have HC:=Nc (((lD (op-16) k im H2.out hk hm (by omega)).mono fun e w' hh=>PsE.of hh).mono fun e w' hh=>(show PsE E sv ov N W2 (exP E.I E.T ⟨op,(k:Int),(j:Int),im,ax,bk,sz⟩ N) e w' from y7 (by omega) (show op-16=32+op%16 by omega)▸hh))
    have e0:(op==0)=false:=by simp;omega
    have e2:(op==2)=false:=by simp;omega
    have e4:(op==4)=false:=by simp;omega
    have e144:(op==144)=false:=by simp;omega
    have e145:(op==145)=false:=by simp;omega
    have e20:(op==20)=false:=by simp;omega
    have e21:(op==21)=false:=by simp;omega
    have e5:(op==5)=false:=by simp;omega
    have e18:(op==18)=false:=by simp;omega
    have e19:(op==19)=false:=by simp;omega
    have e150:(op==150)=false:=by simp;omega
    have e146:(op==146)=false:=by simp;omega
    have e147:(op==147)=false:=by simp;omega
    obtain⟨o0,o1⟩:=c;go_wp2_with fail
    refine HC.out.mono ?_;rintro e w3 hp;obtain rfl:=hp.e;have HP:=Nc hp;clear hp;go_wp2_with fail
    go_end0
    exact PsE.next HP.out F2.out HKp.out HSp.out HS.out
   ·have HC:=Nc (((lD (op-32) k im H2.out hk hm (by omega)).mono fun e w' hh=>PsE.of hh).mono fun e w' hh=>(show PsE E sv ov N W2 (exP E.I E.T ⟨op,(k:Int),(j:Int),im,ax,bk,sz⟩ N) e w' from y7 (by omega) (show op-32=32+op%16 by omega)▸hh))
    have e0:(op==0)=false:=by simp;omega
    have e2:(op==2)=false:=by simp;omega
    have e4:(op==4)=false:=by simp;omega
    have e144:(op==144)=false:=by simp;omega
    have e145:(op==145)=false:=by simp;omega
    have e20:(op==20)=false:=by simp;omega
    have e21:(op==21)=false:=by simp;omega
    have e5:(op==5)=false:=by simp;omega
    have e18:(op==18)=false:=by simp;omega
    have e19:(op==19)=false:=by simp;omega
    have e150:(op==150)=false:=by simp;omega
    have e146:(op==146)=false:=by simp;omega
    have e147:(op==147)=false:=by simp;omega
    obtain⟨o0,o1⟩:=c;go_wp2_with fail
    refine HC.out.mono ?_;rintro e w3 hp;obtain rfl:=hp.e;have HP:=Nc hp;clear hp;go_wp2_with fail
    go_end0
    exact PsE.next HP.out F2.out HKp.out HSp.out HS.out
  ·go_wp2_with fail
   go_end0
   exact PsE.okk HS.out rfl (HSp.out▸H2.out) F2.out
  ·have HC:=Nc ((yL 80 (.inl rfl) k j im ax bk sz H2.out hk hj hm hx b0 b1).mono fun e w' hh=>(show PsE E sv ov N W2 (exP E.I E.T ⟨80,(k:Int),(j:Int),im,ax,bk,sz⟩ N) e w' from hh))
   go_wp2_with fail
   refine HC.out.mono ?_;rintro e w3 hp;obtain rfl:=hp.e;have HP:=Nc hp;clear hp;go_wp2_with fail
   go_end0
   exact PsE.next HP.out F2.out HKp.out HSp.out HS.out
  ·have HC:=Nc ((yL 88 (.inr rfl) k j im ax bk sz H2.out hk hj hm hx b0 b1).mono fun e w' hh=>(show PsE E sv ov N W2 (exP E.I E.T ⟨88,(k:Int),(j:Int),im,ax,bk,sz⟩ N) e w' from hh))
   go_wp2_with fail
   refine HC.out.mono ?_;rintro e w3 hp;obtain rfl:=hp.e;have HP:=Nc hp;clear hp;go_wp2_with fail
   go_end0
   exact PsE.next HP.out F2.out HKp.out HSp.out HS.out
  ·have HC:=Nc ((CB k j im ax bk sz H2.out hk hj hm hx b0 b1).mono fun e w' hh=>(show PsE E sv ov N W2 (exP E.I E.T ⟨84,(k:Int),(j:Int),im,ax,bk,sz⟩ N) e w' from hh))
   go_wp2_with fail
   refine HC.out.mono ?_;rintro e w3 hp;obtain rfl:=hp.e;have HP:=Nc hp;clear hp;go_wp2_with fail
   go_end0
   exact PsE.next HP.out F2.out HKp.out HSp.out HS.out
  ·have HC:=Nc ((yM 81 (.inl rfl) k j im ax bk sz H2.out hk hj hm hx b0 b1).mono fun e w' hh=>(show PsE E sv ov N W2 (exP E.I E.T ⟨81,(k:Int),(j:Int),im,ax,bk,sz⟩ N) e w' from hh))
   go_wp2_with fail
   refine HC.out.mono ?_;rintro e w3 hp;obtain rfl:=hp.e;have HP:=Nc hp;clear hp;go_wp2_with fail
   go_end0
   exact PsE.next HP.out F2.out HKp.out HSp.out HS.out
  ·have HC:=Nc ((yM 89 (.inr rfl) k j im ax bk sz H2.out hk hj hm hx b0 b1).mono fun e w' hh=>(show PsE E sv ov N W2 (exP E.I E.T ⟨89,(k:Int),(j:Int),im,ax,bk,sz⟩ N) e w' from hh))
   go_wp2_with fail
   refine HC.out.mono ?_;rintro e w3 hp;obtain rfl:=hp.e;have HP:=Nc hp;clear hp;go_wp2_with fail
   go_end0
   exact PsE.next HP.out F2.out HKp.out HSp.out HS.out
  ·have HC:=Nc ((CE k j im ax bk sz H2.out hk hj hm hx b0 b1).mono fun e w' hh=>(show PsE E sv ov N W2 (exP E.I E.T ⟨85,(k:Int),(j:Int),im,ax,bk,sz⟩ N) e w' from hh))
   go_wp2_with fail
   refine HC.out.mono ?_;rintro e w3 hp;obtain rfl:=hp.e;have HP:=Nc hp;clear hp;go_wp2_with fail
   go_end0
   exact PsE.next HP.out F2.out HKp.out HSp.out HS.out
  ·have HC:=Nc ((yJ 82 (.inl rfl) k j im ax bk sz H2.out hk hj hm hx b0 b1).mono fun e w' hh=>(show PsE E sv ov N W2 (exP E.I E.T ⟨82,(k:Int),(j:Int),im,ax,bk,sz⟩ N) e w' from hh))
   go_wp2_with fail
   refine HC.out.mono ?_;rintro e w3 hp;obtain rfl:=hp.e;have HP:=Nc hp;clear hp;go_wp2_with fail
   go_end0
   exact PsE.next HP.out F2.out HKp.out HSp.out HS.out
  ·have HC:=Nc ((yJ 90 (.inr rfl) k j im ax bk sz H2.out hk hj hm hx b0 b1).mono fun e w' hh=>(show PsE E sv ov N W2 (exP E.I E.T ⟨90,(k:Int),(j:Int),im,ax,bk,sz⟩ N) e w' from hh))
   go_wp2_with fail
   refine HC.out.mono ?_;rintro e w3 hp;obtain rfl:=hp.e;have HP:=Nc hp;clear hp;go_wp2_with fail
   go_end0
   exact PsE.next HP.out F2.out HKp.out HSp.out HS.out
  ·have HC:=Nc ((Cj k j im ax bk sz H2.out hk hj hm hx b0 b1).mono fun e w' hh=>(show PsE E sv ov N W2 (exP E.I E.T ⟨86,(k:Int),(j:Int),im,ax,bk,sz⟩ N) e w' from hh))
   go_wp2_with fail
   refine HC.out.mono ?_;rintro e w3 hp;obtain rfl:=hp.e;have HP:=Nc hp;clear hp;go_wp2_with fail
   go_end0
   exact PsE.next HP.out F2.out HKp.out HSp.out HS.out
  ·have HC:=Nc ((yK 83 (.inl rfl) k j im ax bk sz H2.out hk hj hm hx b0 b1).mono fun e w' hh=>(show PsE E sv ov N W2 (exP E.I E.T ⟨83,(k:Int),(j:Int),im,ax,bk,sz⟩ N) e w' from hh))
   go_wp2_with fail
   refine HC.out.mono ?_;rintro e w3 hp;obtain rfl:=hp.e;have HP:=Nc hp;clear hp;go_wp2_with fail
   go_end0
   exact PsE.next HP.out F2.out HKp.out HSp.out HS.out
  ·have HC:=Nc ((yK 91 (.inr rfl) k j im ax bk sz H2.out hk hj hm hx b0 b1).mono fun e w' hh=>(show PsE E sv ov N W2 (exP E.I E.T ⟨91,(k:Int),(j:Int),im,ax,bk,sz⟩ N) e w' from hh))
   go_wp2_with fail
   refine HC.out.mono ?_;rintro e w3 hp;obtain rfl:=hp.e;have HP:=Nc hp;clear hp;go_wp2_with fail
   go_end0
   exact PsE.next HP.out F2.out HKp.out HSp.out HS.out
  ·have HC:=Nc ((Cm k j im ax bk sz H2.out hk hj hm hx b0 b1).mono fun e w' hh=>(show PsE E sv ov N W2 (exP E.I E.T ⟨87,(k:Int),(j:Int),im,ax,bk,sz⟩ N) e w' from hh))
   go_wp2_with fail
   refine HC.out.mono ?_;rintro e w3 hp;obtain rfl:=hp.e;have HP:=Nc hp;clear hp;go_wp2_with fail
   go_end0
   exact PsE.next HP.out F2.out HKp.out HSp.out HS.out
  ·have HC:=Nc ((FV k j im ax bk sz H2.out hk hj hm hx b0 b1).mono fun e w' hh=>(show PsE E sv ov N W2 (exP E.I E.T ⟨150,(k:Int),(j:Int),im,ax,bk,sz⟩ N) e w' from hh))
   go_wp2_with fail
   refine HC.out.mono ?_;rintro e w3 hp;obtain rfl:=hp.e;have HP:=Nc hp;clear hp;go_wp2_with fail
   go_end0
   exact PsE.next HP.out F2.out HKp.out HSp.out HS.out
  ·have HC:=Nc ((FW k j im ax bk sz H2.out hk hj hm hx b0 b1).mono fun e w' hh=>(show PsE E sv ov N W2 (exP E.I E.T ⟨146,(k:Int),(j:Int),im,ax,bk,sz⟩ N) e w' from hh))
   go_wp2_with fail
   refine HC.out.mono ?_;rintro e w3 hp;obtain rfl:=hp.e;have HP:=Nc hp;clear hp;go_wp2_with fail
   go_end0
   exact PsE.next HP.out F2.out HKp.out HSp.out HS.out
  ·have HC:=Nc ((FX k j im ax bk sz H2.out hk hj hm hx b0 b1).mono fun e w' hh=>(show PsE E sv ov N W2 (exP E.I E.T ⟨147,(k:Int),(j:Int),im,ax,bk,sz⟩ N) e w' from hh))
   go_wp2_with fail
   refine HC.out.mono ?_;rintro e w3 hp;obtain rfl:=hp.e;have HP:=Nc hp;clear hp;go_wp2_with fail
   go_end0
   exact PsE.next HP.out F2.out HKp.out HSp.out HS.out
  ·have HC:=Nc ((FT k j im ax bk sz H2.out hk hm).mono fun e w' hh=>(show PsE E sv ov N W2 (exP E.I E.T ⟨16,(k:Int),(j:Int),im,ax,bk,sz⟩ N) e w' from hh))
   go_wp2_with fail
   refine HC.out.mono ?_;rintro e w3 hp;obtain rfl:=hp.e;have HP:=Nc hp;clear hp;go_wp2_with fail
   go_end0
   exact PsE.next HP.out F2.out HKp.out HSp.out HS.out
  ·have HC:=Nc ((FQ k j im ax bk sz H2.out hk hm).mono fun e w' hh=>(show PsE E sv ov N W2 (exP E.I E.T ⟨17,(k:Int),(j:Int),im,ax,bk,sz⟩ N) e w' from hh))
   go_wp2_with fail
   refine HC.out.mono ?_;rintro e w3 hp;obtain rfl:=hp.e;have HP:=Nc hp;clear hp;go_wp2_with fail
   go_end0
   exact PsE.next HP.out F2.out HKp.out HSp.out HS.out
  ·have HC:=Nc ((FO k j im ax bk sz H2.out hk hm).mono fun e w' hh=>(show PsE E sv ov N W2 (exP E.I E.T ⟨20,(k:Int),(j:Int),im,ax,bk,sz⟩ N) e w' from hh))
   go_wp2_with fail
   refine HC.out.mono ?_;rintro e w3 hp;obtain rfl:=hp.e;have HP:=Nc hp;clear hp;go_wp2_with fail
   go_end0
   exact PsE.next HP.out F2.out HKp.out HSp.out HS.out
  ·have HC:=Nc ((IJ k j im ax bk sz H2.out hk hm).mono fun e w' hh=>(show PsE E sv ov N W2 (exP E.I E.T ⟨5,(k:Int),(j:Int),im,ax,bk,sz⟩ N) e w' from hh))
   go_wp2_with fail
   refine HC.out.mono ?_;rintro e w3 hp;obtain rfl:=hp.e;have HP:=Nc hp;clear hp;go_wp2_with fail
   go_end0
   exact PsE.next HP.out F2.out HKp.out HSp.out HS.out
  ·have HC:=Nc ((FN k j im ax bk sz H2.out hk hm).mono fun e w' hh=>(show PsE E sv ov N W2 (exP E.I E.T ⟨21,(k:Int),(j:Int),im,ax,bk,sz⟩ N) e w' from hh))
   go_wp2_with fail
   refine HC.out.mono ?_;rintro e w3 hp;obtain rfl:=hp.e;have HP:=Nc hp;clear hp;go_wp2_with fail
   go_end0
   exact PsE.next HP.out F2.out HKp.out HSp.out HS.out
  ·have HC:=Nc ((BV k j im ax bk sz H2.out hk hm).mono fun e w' hh=>(show PsE E sv ov N W2 (exP E.I E.T ⟨160,(k:Int),(j:Int),im,ax,bk,sz⟩ N) e w' from hh))
   go_wp2_with fail
   refine HC.out.mono ?_;rintro e w3 hp;obtain rfl:=hp.e;have HP:=Nc hp;clear hp;go_wp2_with fail
   go_end0
   exact PsE.next HP.out F2.out HKp.out HSp.out HS.out
  ·have HC:=Nc ((BU k j im ax bk sz H2.out hk hm).mono fun e w' hh=>(show PsE E sv ov N W2 (exP E.I E.T ⟨161,(k:Int),(j:Int),im,ax,bk,sz⟩ N) e w' from hh))
   go_wp2_with fail
   refine HC.out.mono ?_;rintro e w3 hp;obtain rfl:=hp.e;have HP:=Nc hp;clear hp;go_wp2_with fail
   go_end0
   exact PsE.next HP.out F2.out HKp.out HSp.out HS.out
  ·have HC:=Nc ((BR k j im ax bk sz H2.out hk hm).mono fun e w' hh=>(show PsE E sv ov N W2 (exP E.I E.T ⟨162,(k:Int),(j:Int),im,ax,bk,sz⟩ N) e w' from hh))
   go_wp2_with fail
   refine HC.out.mono ?_;rintro e w3 hp;obtain rfl:=hp.e;have HP:=Nc hp;clear hp;go_wp2_with fail
   go_end0
   exact PsE.next HP.out F2.out HKp.out HSp.out HS.out
  ·have HC:=Nc ((BQ k j im ax bk sz H2.out hk hm).mono fun e w' hh=>(show PsE E sv ov N W2 (exP E.I E.T ⟨163,(k:Int),(j:Int),im,ax,bk,sz⟩ N) e w' from hh))
   go_wp2_with fail
   refine HC.out.mono ?_;rintro e w3 hp;obtain rfl:=hp.e;have HP:=Nc hp;clear hp;go_wp2_with fail
   go_end0
   exact PsE.next HP.out F2.out HKp.out HSp.out HS.out
  ·have HC:=Nc ((vT 128 (.inl rfl) k j im ax bk sz H2.out hk hm hx b0 b1).mono fun e w' hh=>(show PsE E sv ov N W2 (exP E.I E.T ⟨128,(k:Int),(j:Int),im,ax,bk,sz⟩ N) e w' from hh))
   rw[HPp.out] at HC;go_wp2_with fail
   refine HC.out.mono ?_;rintro e w3 hp;obtain rfl:=hp.e;have HP:=Nc hp;clear hp;go_wp2_with fail
   go_end0
   exact PsE.next HP.out F2.out HKp.out HSp.out HS.out
  ·have HC:=Nc ((vT 129 (.inr rfl) k j im ax bk sz H2.out hk hm hx b0 b1).mono fun e w' hh=>(show PsE E sv ov N W2 (exP E.I E.T ⟨129,(k:Int),(j:Int),im,ax,bk,sz⟩ N) e w' from hh))
   rw[HPp.out] at HC;go_wp2_with fail
   refine HC.out.mono ?_;rintro e w3 hp;obtain rfl:=hp.e;have HP:=Nc hp;clear hp;go_wp2_with fail
   go_end0
   exact PsE.next HP.out F2.out HKp.out HSp.out HS.out
  ·have HC:=Nc ((Ci k j im ax bk sz H2.out hk hm hx b0 b1).mono fun e w' hh=>(show PsE E sv ov N W2 (exP E.I E.T ⟨130,(k:Int),(j:Int),im,ax,bk,sz⟩ N) e w' from hh))
   rw[HPp.out] at HC;go_wp2_with fail
   refine HC.out.mono ?_;rintro e w3 hp;obtain rfl:=hp.e;have HP:=Nc hp;clear hp;go_wp2_with fail
   go_end0
   exact PsE.next HP.out F2.out HKp.out HSp.out HS.out
  ·have HC:=Nc ((zM k j im ax bk sz H2.out hk hm hx b0 b1 (HFar.out (.inl rfl))).mono fun e w' hh=>(show PsE E sv ov N W2 (exP E.I E.T ⟨131,(k:Int),(j:Int),im,ax,bk,sz⟩ N) e w' from hh))
   rw[HPp.out] at HC;go_wp2_with fail
   refine HC.out.mono ?_;rintro e w3 hp;obtain rfl:=hp.e;have HP:=Nc hp;clear hp;go_wp2_with fail
   go_end0
   exact PsE.next HP.out F2.out HKp.out HSp.out HS.out
  ·have HC:=Nc ((Cf k j im ax bk sz H2.out hk hm hx b0 b1 (HFar.out (.inr rfl))).mono fun e w' hh=>(show PsE E sv ov N W2 (exP E.I E.T ⟨132,(k:Int),(j:Int),im,ax,bk,sz⟩ N) e w' from hh))
   rw[HPp.out] at HC;go_wp2_with fail
   refine HC.out.mono ?_;rintro e w3 hp;obtain rfl:=hp.e;have HP:=Nc hp;clear hp;go_wp2_with fail
   go_end0
   exact PsE.next HP.out F2.out HKp.out HSp.out HS.out
  ·have HC:=Nc ((Cc k j im ax bk sz H2.out hk hm hx b0 b1).mono fun e w' hh=>(show PsE E sv ov N W2 (exP E.I E.T ⟨1,(k:Int),(j:Int),im,ax,bk,sz⟩ N) e w' from hh))
   rw[HPp.out] at HC;go_wp2_with fail
   refine HC.out.mono ?_;rintro e w3 hp;obtain rfl:=hp.e;have HP:=Nc hp;clear hp;go_wp2_with fail
   go_end0
   exact PsE.next HP.out F2.out HKp.out HSp.out HS.out
  ·have HC:=Nc ((zL k j im ax bk sz H2.out hk hm hx b0 b1).mono fun e w' hh=>(show PsE E sv ov N W2 (exP E.I E.T ⟨134,(k:Int),(j:Int),im,ax,bk,sz⟩ N) e w' from hh))
   rw[HPp.out] at HC;go_wp2_with fail
   refine HC.out.mono ?_;rintro e w3 hp;obtain rfl:=hp.e;have HP:=Nc hp;clear hp;go_wp2_with fail
   go_end0
   exact PsE.next HP.out F2.out HKp.out HSp.out HS.out
  ·have HC:=Nc (dG 1 0 H2.out)
   go_wp2_with fail
   refine HC.out.mono ?_;rintro e w3 ⟨rfl,hm3,hf3⟩;have HP:=Nc (And.intro hm3 (F2.out.trans hf3));clear hm3 hf3;go_wp2_with fail
   go_end0
   exact PsE.trr HS.out rfl (HSp.out▸HP.out.1) HKp.out HP.out.2
  ·have HC:=Nc ((Cb k j im ax bk sz H2.out hk hm hx b0 b1).mono fun e w' hh=>(show PsE E sv ov N W2 (exP E.I E.T ⟨133,(k:Int),(j:Int),im,ax,bk,sz⟩ N) e w' from hh))
   rw[HPp.out] at HC;go_wp2_with fail
   refine HC.out.mono ?_;rintro e w3 hp;obtain rfl:=hp.e;have HP:=Nc hp;clear hp;go_wp2_with fail
   go_end0
   exact PsE.next HP.out F2.out HKp.out HSp.out HS.out
  ·have HC:=Nc ((FU k j im ax bk sz H2.out hk hm hx b0 b1).mono fun e w' hh=>(show PsE E sv ov N W2 (exP E.I E.T ⟨144,(k:Int),(j:Int),im,ax,bk,sz⟩ N) e w' from hh))
   rw[HPp.out] at HC;go_wp2_with fail
   refine HC.out.mono ?_;rintro e w3 hp;obtain rfl:=hp.e;have HP:=Nc hp;clear hp;go_wp2_with fail
   go_end0
   exact PsE.next HP.out F2.out HKp.out HSp.out HS.out
  ·have HC:=Nc ((zN k j im ax bk sz H2.out hk hm hx b0 b1).mono fun e w' hh=>(show PsE E sv ov N W2 (exP E.I E.T ⟨3,(k:Int),(j:Int),im,ax,bk,sz⟩ N) e w' from hh))
   rw[HPp.out] at HC;go_wp2_with fail
   refine HC.out.mono ?_;rintro e w3 hp;obtain rfl:=hp.e;have HP:=Nc hp;clear hp;go_wp2_with fail
   go_end0
   exact PsE.next HP.out F2.out HKp.out HSp.out HS.out
  ·have HC:=Nc ((zJ k j im ax bk sz H2.out hk hm hx b0 b1).mono fun e w' hh=>(show PsE E sv ov N W2 (exP E.I E.T ⟨4,(k:Int),(j:Int),im,ax,bk,sz⟩ N) e w' from hh))
   rw[HPp.out] at HC;go_wp2_with fail
   refine HC.out.mono ?_;rintro e w3 hp;obtain rfl:=hp.e;have HP:=Nc hp;clear hp;go_wp2_with fail
   go_end0
   exact PsE.next HP.out F2.out HKp.out HSp.out HS.out
  ·have HC:=Nc ((BZ k j im ax bk sz H2.out hk hm hx b0 b1 HNo.out).mono fun e w' hh=>(show PsE E sv ov N W2 (exP E.I E.T ⟨145,(k:Int),(j:Int),im,ax,bk,sz⟩ N) e w' from hh))
   rw[HPp.out] at HC;go_wp2_with fail
   refine HC.out.mono ?_;rintro e w3 hp;obtain rfl:=hp.e;have HP:=Nc hp;clear hp;go_wp2_with fail
   go_end0
   exact PsE.next HP.out F2.out HKp.out HSp.out HS.out
end
end Go.Proofs.YthkcloapiefggaaGreatDoor
