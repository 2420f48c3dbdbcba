import Derived.Test.YthkcloapiefggaaGreatDoorQRqe
namespace Go.Proofs.YthkcloapiefggaaGreatDoor
set_option linter.unusedVariables false
set_option linter.unusedSimpArgs false
set_option maxRecDepth 100000
set_option maxHeartbeats 1000000
open Go.ChangeShapes Go.WideShapes Go.RowKit
section
variable {E:Qe} {sv ov:Value} {S S0:Ms} {d:Nat} {k i:Int} {w:World}
theorem gm{w:World}{g:Nat}{op d s im ax bk sz:Int}(h:w.heap[g]? =some (.cells #[.int .i64 op,.int .i64 d,.int .i64 s,.int .u16 im,.int .u16 ax,.int .i64 bk,.int .i64 sz] 58 (0,0))):
 w.cell? ⟨g,0,none⟩=some (.int .i64 op)∧w.cell? ⟨g,1,none⟩=some (.int .i64 d)∧w.cell? ⟨g,3,none⟩=some (.int .u16 im)∧w.cell? ⟨g,4,none⟩=some (.int .u16 ax)∧w.cell? ⟨g,5,none⟩=some (.int .i64 bk):=
 ⟨ae h 0 _ rfl,ae h 1 _ rfl,ae h 3 _ rfl,ae h 4 _ rfl,ae h 5 _ rfl⟩
theorem Jt.cells{sv0 ov0:Value}{w0:World}{P:Ms→Int→Int→Prop}(h:Jt E S0 sv0 ov0 w0 P w):(∃ x,w.cell? ⟨E.b,15,none⟩=some (.int .u16 x))∧(∃ x,w.cell? ⟨E.b,17,none⟩=some (.int .u16 x))∧(∃ x,w.cell? ⟨E.b,18,none⟩=some (.int .u16 x))∧(∃ x,w.cell? ⟨E.b,19,none⟩=some (.int .i64 x))∧(∀ j,j < 8→∃ x,w.cell? ⟨E.b,7+j,none⟩=some (.int .u16 x))∧∀ j,w.frozen? ⟨E.b,j,none⟩=false:=by
 obtain⟨sv,ov,S,k,i,hm,hf,hk,hp⟩:=h;exact⟨⟨_,hm.at 15 (.int .u16 S.pc) rfl⟩,⟨_,hm.at 17 (.int .u16 S.fp) rfl⟩,⟨_,hm.at 18 (.int .u16 S.f) rfl⟩,⟨_,hm.at 19 (.int .i64 S.aF) rfl⟩,fun j hj=>⟨_,hm.cR j hj⟩,hm.frz⟩
theorem Jt.pc{sv0 ov0:Value}{w0:World}{m:Nat}(h:Jt E S0 sv0 ov0 w0 (jB m) w)(v:Int)(hv:U16 v):Jt E S0 sv0 ov0 w0 (jB m) (w.setCell ⟨E.b,15,none⟩ (.int .u16 v)):=by
 obtain⟨sv,ov,S,k,i,hm,hf,hk,hp⟩:=h;exact⟨sv,ov,_,k,i,hm.dF v hv,hf.set _ _,⟨hk.ram,hk.out,hk.stk⟩,hp⟩
theorem Jt.fp{sv0 ov0:Value}{w0:World}{m:Nat}(h:Jt E S0 sv0 ov0 w0 (jB m) w)(v:Int)(hv:U16 v):Jt E S0 sv0 ov0 w0 (jB m) (w.setCell ⟨E.b,17,none⟩ (.int .u16 v)):=by
 obtain⟨sv,ov,S,k,i,hm,hf,hk,hp⟩:=h;exact⟨sv,ov,_,k,i,hm.kW v hv,hf.set _ _,⟨hk.ram,hk.out,hk.stk⟩,hp⟩
theorem Jt.f{sv0 ov0:Value}{w0:World}{m:Nat}(h:Jt E S0 sv0 ov0 w0 (jB m) w)(v:Int)(hv:U16 v):Jt E S0 sv0 ov0 w0 (jB m) (w.setCell ⟨E.b,18,none⟩ (.int .u16 v)):=by
 obtain⟨sv,ov,S,k,i,hm,hf,hk,hp⟩:=h;exact⟨sv,ov,_,k,i,hm.oL v hv,hf.set _ _,⟨hk.ram,hk.out,hk.stk⟩,hp⟩
theorem Jt.aF{sv0 ov0:Value}{w0:World}{m:Nat}(h:Jt E S0 sv0 ov0 w0 (jB m) w)(v:Int)(hv:I64 v):Jt E S0 sv0 ov0 w0 (jB m) (w.setCell ⟨E.b,19,none⟩ (.int .i64 v)):=by
 obtain⟨sv,ov,S,k,i,hm,hf,hk,hp⟩:=h;exact⟨sv,ov,_,k,i,hm.fQ v hv,hf.set _ _,⟨hk.ram,hk.out,hk.stk⟩,hp⟩
theorem Jt.r{sv0 ov0:Value}{w0:World}{m:Nat}(h:Jt E S0 sv0 ov0 w0 (jB m) w)(j:Nat)(hj:j < 8)(v:Int)(hv:U16 v):Jt E S0 sv0 ov0 w0 (jB m) (w.setCell ⟨E.b,7+j,none⟩ (.int .u16 v)):=by
 obtain⟨sv,ov,S,k,i,hm,hf,hk,hp⟩:=h;exact⟨sv,ov,_,k,i,hm.aZ j hj v hv,hf.set _ _,⟨hk.ram,hk.out,hk.stk⟩,hp⟩
theorem Jt.drew{sv0 ov0:Value}{w0:World}{P:Ms→Int→Int→Prop}(h:Jt E S0 sv0 ov0 w0 P w):Jt E S0 sv0 ov0 w0 P w.drew:=h.kept (Below.refl _ _).drew
set_option maxHeartbeats 4000000 in
theorem Cc(k:Nat)(s im ax bk sz:Int)(h:Mq E sv ov S S.sp 0 0 w)(hk:k < 8)(hm:U16 im)(hx:U16 ax)(b0:0≤bk)(b1:bk < 256):
 Calls Tryz.prog 71 #[.pointer (some ⟨E.b,0,none⟩),.agg #[.int .i64 1,.int .i64 (k:Int),.int .i64 s,.int .u16 im,.int .u16 ax,.int .i64 bk,.int .i64 sz],.int .u16 S.pc] w (PsE E sv ov S w (oN S)):=by
 obtain⟨n0,n1,n2,n3,n4,n5,n6⟩:=aG w 1 k s im ax bk sz;have HB:=Nc (heap_alloc_new w (.cells #[.int .i64 1,.int .i64 (k:Int),.int .i64 s,.int .u16 im,.int .u16 ax,.int .i64 bk,.int .i64 sz] 58));have H:=Nc (h.alloc (.cells #[.int .i64 1,.int .i64 (k:Int),.int .i64 s,.int .u16 im,.int .u16 ax,.int .i64 bk,.int .i64 sz] 58));have HF:=Nc ((Frq.refl E sv ov w).alloc (.cells #[.int .i64 1,.int .i64 (k:Int),.int .i64 s,.int .u16 im,.int .u16 ax,.int .i64 bk,.int .i64 sz] 58));have hne:E.b≠w.heap.size:=by have:=h.lt;omega
 have hf:=H.out.frz;have c15:=H.out.at 15 (.int .u16 S.pc) rfl;have c19:=H.out.at 19 (.int .i64 S.aF) rfl;have HM:=Nc hm;obtain⟨m0,m1⟩:=hm;have hpc:=h.ok.pc;have hsp:=h.ok.sp;by_cases hq:2≤S.sp
 ·have e:oN S= .ok {S with pc:=S.stk (S.sp-1),aF:=S.stk (S.sp-2)%64,sp:=S.sp-2}:=by unfold oN;rw[if_pos hq]
  rw[e];have HP:=Nc (jJ H.out (show 0 < S.sp by omega));have U1:=h.ok.stk (S.sp-1) (by omega);have U2:=h.ok.stk (S.sp-2) (by omega);obtain⟨a,ha⟩:∃ a,S.stk (S.sp-1)=a:=⟨_,rfl⟩;obtain⟨b,hb⟩:∃ b,S.stk (S.sp-2)=b:=⟨_,rfl⟩;have HP2:Hid (∀ sv' W,Mq E sv' ov {S with sp:=S.sp-1,pc:=a} S.sp 0 0 W→Calls Tryz.prog 118 #[.pointer (some ⟨E.b,0,none⟩)] W fun e w'=>e= .returned (.int .u16 b)∧∃ sv2,Mq E sv2 ov {S with sp:=S.sp-2,pc:=a} S.sp 0 0 w'∧Frq E sv' ov W sv2 ov w'):=Nc (fun sv' W hm=>by
   have:=jJ hm (show 0 < S.sp-1 by omega);rw[show({S with sp:=S.sp-1,pc:=a} :Ms).stk (({S with sp:=S.sp-1,pc:=a} :Ms).sp-1)=b from(by rw[← hb];rfl)] at this;exact this)
  rw[ha] at U1 HP⊢;rw[hb] at U2⊢;have htm:=bu b 64 U2.1;have HU:=Nc U1;clear h e ha hb hq hsp U1;go_enter Tryz.func71,Tryz.ntmps71
  go_wp2_with fail
  refine HP.out.mono ?_;rintro e w1 ⟨rfl,sv1,hm1,hf1⟩;have H1:=Nc (hm1.dF a HU.out);have F1:=Nc (hf1.set 15 (.int .u16 a));have c15':=hm1.at 15 (.int .u16 S.pc) rfl;have mf1:=hm1.frz;clear hm1 hf1;go_wp2_with fail
  refine(HP2.out _ _ H1.out).mono ?_;rintro e w2 ⟨rfl,sv2,hm2,hf2⟩;have H2:=Nc (hm2.fQ (b%64) (wu b));have F2:=Nc (HF.out.trans ((F1.out.trans hf2).set 19 (.int .i64 (b%64))));have c19':=hm2.at 19 (.int .i64 S.aF) rfl;have mf2:=hm2.frz;obtain⟨i0,i1,i3,i4,i5⟩:=gm ((F1.out.trans hf2).keep H.out HB.out);clear hm2 hf2;go_wp2_with fail
  go_end0
  exact PsE.okk rfl rfl H2.out F2.out
 ·have e:oN S= .tr 5 0:=by unfold oN;rw[if_neg hq]
  rw[e];have HP:=Nc (jI 1 (show Jt E S sv ov _ (jB 2) _ from⟨sv,ov,S,0,0,H.out,Frq.refl _ _ _ _,Kp.refl S,.inr ⟨rfl,rfl,by omega⟩⟩));clear h e hq hsp;go_enter Tryz.func71,Tryz.ntmps71
  go_wp2_with fail
  refine HP.out.mono ?_;rintro e w1 ⟨⟨a,hu,rfl⟩,hJ⟩;obtain⟨⟨x15,d15⟩,_,_,_,_,df⟩:=hJ.cells;have HP2:=Nc (jI 0 (hJ.pc a hu));clear hJ hu;go_wp2_with fail
  refine HP2.out.mono ?_;rintro e w2 ⟨⟨b,hu,rfl⟩,hJ⟩;obtain⟨_,_,_,⟨x19,d19⟩,_,dg⟩:=hJ.cells;obtain⟨i0,i1,i3,i4,i5⟩:=gm (hJ.keep H.out HB.out);have htm:=bu b 64 hu.1;have HJ:=Nc (hJ.aF (b%64) (wu b));obtain⟨u0,u1⟩:=hu;clear hJ;go_wp2_with fail
  go_end0
  exact PsE.jt rfl rfl (HJ.out.pre HF.out) Dl
set_option maxHeartbeats 4000000 in
theorem vT(op:Int)(ho:op=128∨op=129)(k:Nat)(s im ax bk sz:Int)(h:Mq E sv ov S S.sp 0 0 w)(hk:k < 8)(hm:U16 im)(hx:U16 ax)(b0:0≤bk)(b1:bk < 256):
 Calls Tryz.prog 71 #[.pointer (some ⟨E.b,0,none⟩),.agg #[.int .i64 op,.int .i64 (k:Int),.int .i64 s,.int .u16 im,.int .u16 ax,.int .i64 bk,.int .i64 sz],.int .u16 S.pc] w (PsE E sv ov S w (.ok (jmp S im))):=by
 obtain⟨n0,n1,n2,n3,n4,n5,n6⟩:=aG w op k s im ax bk sz;have HB:=Nc (heap_alloc_new w (.cells #[.int .i64 op,.int .i64 (k:Int),.int .i64 s,.int .u16 im,.int .u16 ax,.int .i64 bk,.int .i64 sz] 58));have H:=Nc (h.alloc (.cells #[.int .i64 op,.int .i64 (k:Int),.int .i64 s,.int .u16 im,.int .u16 ax,.int .i64 bk,.int .i64 sz] 58));have HF:=Nc ((Frq.refl E sv ov w).alloc (.cells #[.int .i64 op,.int .i64 (k:Int),.int .i64 s,.int .u16 im,.int .u16 ax,.int .i64 bk,.int .i64 sz] 58));have hne:E.b≠w.heap.size:=by have:=h.lt;omega
 have hf:=H.out.frz;have c15:=H.out.at 15 (.int .u16 S.pc) rfl;have c19:=H.out.at 19 (.int .i64 S.aF) rfl;have HM:=Nc hm;obtain⟨m0,m1⟩:=hm;have hpc:=h.ok.pc;have HX:=Nc (h.alloc (.cells #[.int .i64 op,.int .i64 (k:Int),.int .i64 s,.int .u16 im,.int .u16 ax,.int .i64 bk,.int .i64 sz] 58));have hw:IntKind.u16.wrap (S.pc+im)=(S.pc+im)%65536:=IntKind.wrap_u16 _;have HS:=Nc (H.out.dF ((S.pc+im)%65536) (dU _));have HJ:=Nc (show jmp S im={S with pc:=(S.pc+im)%65536} from rfl);rw[HJ.out];obtain⟨a,ha⟩:∃ a,(S.pc+im)%65536=a:=⟨_,rfl⟩;rw[ha] at hw HS⊢;obtain⟨p0,p1⟩:=hpc;clear h ha HJ;rcases ho with rfl|rfl;all_goals
  go_enter Tryz.func71,Tryz.ntmps71
  go_wp2_with fail
  go_end0
  exact PsE.okk rfl rfl HS.out (HF.out.set _ _)
set_option maxHeartbeats 4000000 in
theorem zM(k:Nat)(s im ax bk sz:Int)(h:Mq E sv ov S S.sp 0 0 w)(hk:k < 8)(hm:U16 im)(hx:U16 ax)(b0:0≤bk)(b1:bk < 256)(b2:bk < 64):
 Calls Tryz.prog 71 #[.pointer (some ⟨E.b,0,none⟩),.agg #[.int .i64 131,.int .i64 (k:Int),.int .i64 s,.int .u16 im,.int .u16 ax,.int .i64 bk,.int .i64 sz],.int .u16 S.pc] w (PsE E sv ov S w (.ok (gq S bk im))):=by
 obtain⟨n0,n1,n2,n3,n4,n5,n6⟩:=aG w 131 k s im ax bk sz;have HB:=Nc (heap_alloc_new w (.cells #[.int .i64 131,.int .i64 (k:Int),.int .i64 s,.int .u16 im,.int .u16 ax,.int .i64 bk,.int .i64 sz] 58));have H:=Nc (h.alloc (.cells #[.int .i64 131,.int .i64 (k:Int),.int .i64 s,.int .u16 im,.int .u16 ax,.int .i64 bk,.int .i64 sz] 58));have HF:=Nc ((Frq.refl E sv ov w).alloc (.cells #[.int .i64 131,.int .i64 (k:Int),.int .i64 s,.int .u16 im,.int .u16 ax,.int .i64 bk,.int .i64 sz] 58));have hne:E.b≠w.heap.size:=by have:=h.lt;omega
 have hf:=H.out.frz;have c15:=H.out.at 15 (.int .u16 S.pc) rfl;have c19:=H.out.at 19 (.int .i64 S.aF) rfl;have HM:=Nc hm;obtain⟨m0,m1⟩:=hm;have hpc:=h.ok.pc;have c18:=H.out.at 18 (.int .u16 S.f) rfl;obtain⟨f0,f1⟩:=h.ok.f;have HC:=Nc (fun W=>rX 3 S.f W f0 f1);have hw:IntKind.u16.wrap (S.pc+im)=(S.pc+im)%65536:=IntKind.wrap_u16 _;have hU:=Nc (dU (S.pc+im));have HG:=Nc (show gq S bk im={S with pc:=im,aF:=if 4096≤im∧im < 8192 then bk else S.aF} by unfold gq;rw[Int.emod_eq_of_lt b0 b2]);rw[HG.out];have HS0:=Nc (H.out.dF im HM.out);have HS1:=Nc ((H.out.dF ((S.pc+im)%65536) hU.out).dF im HM.out);have HT0:=Nc ((H.out.dF im HM.out).fQ bk ⟨by omega,by omega⟩);have HT1:=Nc (((H.out.dF ((S.pc+im)%65536) hU.out).dF im HM.out).fQ bk ⟨by omega,by omega⟩);obtain⟨a,ha⟩:∃ a,(S.pc+im)%65536=a:=⟨_,rfl⟩;rw[ha] at hw HS1 HT1;obtain⟨p0,p1⟩:=hpc;obtain⟨f,hfe⟩:∃ f,S.f=f:=⟨_,rfl⟩;rw[hfe] at c18 HC f0 f1;obtain⟨v,hv⟩:∃ v,dZ 3 f=v:=⟨_,rfl⟩;rw[hv] at HC;clear h ha hfe hv HG hU;by_cases q0:4096≤im
 ·by_cases q1:im < 8192
  ·rw[if_pos ⟨q0,q1⟩]
   cases v
   ·go_enter Tryz.func71,Tryz.ntmps71
    go_wp2_with fail
    refine(HC.out _).mono ?_;rintro e w1 ⟨rfl,rfl⟩;go_wp2_with fail
    go_end0
    exact PsE.okk rfl rfl HT0.out ((HF.out.set _ _).set _ _)
   ·go_enter Tryz.func71,Tryz.ntmps71
    go_wp2_with fail
    refine(HC.out _).mono ?_;rintro e w1 ⟨rfl,rfl⟩;go_wp2_with fail
    go_end0
    exact PsE.okk rfl rfl HT1.out (((HF.out.set _ _).set _ _).set _ _)
  ·rw[if_neg (fun c=>q1 c.2)]
   cases v
   ·go_enter Tryz.func71,Tryz.ntmps71
    go_wp2_with fail
    refine(HC.out _).mono ?_;rintro e w1 ⟨rfl,rfl⟩;go_wp2_with fail
    go_end0
    exact PsE.okk rfl rfl HS0.out (HF.out.set _ _)
   ·go_enter Tryz.func71,Tryz.ntmps71
    go_wp2_with fail
    refine(HC.out _).mono ?_;rintro e w1 ⟨rfl,rfl⟩;go_wp2_with fail
    go_end0
    exact PsE.okk rfl rfl HS1.out ((HF.out.set _ _).set _ _)
 ·rw[if_neg (fun c=>q0 c.1)]
  cases v
  ·go_enter Tryz.func71,Tryz.ntmps71
   go_wp2_with fail
   refine(HC.out _).mono ?_;rintro e w1 ⟨rfl,rfl⟩;go_wp2_with fail
   go_end0
   exact PsE.okk rfl rfl HS0.out (HF.out.set _ _)
  ·go_enter Tryz.func71,Tryz.ntmps71
   go_wp2_with fail
   refine(HC.out _).mono ?_;rintro e w1 ⟨rfl,rfl⟩;go_wp2_with fail
   go_end0
   exact PsE.okk rfl rfl HS1.out ((HF.out.set _ _).set _ _)
set_option maxHeartbeats 4000000 in
theorem Ce(op:Int)(ho:96≤op∧op≤125)(k:Nat)(s im ax bk sz:Int)(h:Mq E sv ov S S.sp 0 0 w)(hk:k < 8)(hm:U16 im)(hx:U16 ax)(b0:0≤bk)(b1:bk < 256):
 Calls Tryz.prog 71 #[.pointer (some ⟨E.b,0,none⟩),.agg #[.int .i64 op,.int .i64 (k:Int),.int .i64 s,.int .u16 im,.int .u16 ax,.int .i64 bk,.int .i64 sz],.int .u16 S.pc] w (PsE E sv ov S w (.ok (if dZ (op%16) S.f=true then jmp S im else S))):=by
 obtain⟨n0,n1,n2,n3,n4,n5,n6⟩:=aG w op k s im ax bk sz;have HB:=Nc (heap_alloc_new w (.cells #[.int .i64 op,.int .i64 (k:Int),.int .i64 s,.int .u16 im,.int .u16 ax,.int .i64 bk,.int .i64 sz] 58));have H:=Nc (h.alloc (.cells #[.int .i64 op,.int .i64 (k:Int),.int .i64 s,.int .u16 im,.int .u16 ax,.int .i64 bk,.int .i64 sz] 58));have HF:=Nc ((Frq.refl E sv ov w).alloc (.cells #[.int .i64 op,.int .i64 (k:Int),.int .i64 s,.int .u16 im,.int .u16 ax,.int .i64 bk,.int .i64 sz] 58));have hne:E.b≠w.heap.size:=by have:=h.lt;omega
 have hf:=H.out.frz;have c15:=H.out.at 15 (.int .u16 S.pc) rfl;have c19:=H.out.at 19 (.int .i64 S.aF) rfl;have HM:=Nc hm;obtain⟨m0,m1⟩:=hm;have hpc:=h.ok.pc;have c18:=H.out.at 18 (.int .u16 S.f) rfl;obtain⟨f0,f1⟩:=h.ok.f;have HC:=Nc (fun W=>rX (op%16) S.f W f0 f1);have hw:IntKind.u16.wrap (S.pc+im)=(S.pc+im)%65536:=IntKind.wrap_u16 _;have hcc:(op-96).tmod 16=op%16:=by rw[bu _ 16 (by omega)];omega
 have HS:=Nc (show Mq E sv ov (jmp S im) S.sp 0 0 _ from H.out.dF ((S.pc+im)%65536) (dU _));obtain⟨a,ha⟩:∃ a,(S.pc+im)%65536=a:=⟨_,rfl⟩;rw[ha] at hw HS;obtain⟨p0,p1⟩:=hpc;obtain⟨f,hfe⟩:∃ f,S.f=f:=⟨_,rfl⟩;rw[hfe] at c18 HC f0 f1⊢;obtain⟨v,hv⟩:∃ v,dZ (op%16) f=v:=⟨_,rfl⟩;rw[hv] at HC⊢;clear h ha hfe hv;obtain⟨o0,o1⟩:=ho;cases v
 ·rw[if_neg (by decide)]
  go_enter Tryz.func71,Tryz.ntmps71
  go_wp2_with fail
  refine(HC.out _).mono ?_;rintro e w1 ⟨rfl,rfl⟩;go_wp2_with fail
  go_end0
  exact PsE.okk rfl rfl H.out HF.out
 ·rw[if_pos rfl]
  go_enter Tryz.func71,Tryz.ntmps71
  go_wp2_with fail
  refine(HC.out _).mono ?_;rintro e w1 ⟨rfl,rfl⟩;go_wp2_with fail
  go_end0
  exact PsE.okk rfl rfl HS.out (HF.out.set _ _)
end

section
variable {E:Qe} {sv ov:Value} {S S0:Ms} {d:Nat} {k i:Int} {w:World}
theorem Jt.pcF{sv0 ov0:Value}{w0:World}{m n:Nat}(h:Jt E S0 sv0 ov0 w0 (Full m n) w)(v:Int)(hv:U16 v):Jt E S0 sv0 ov0 w0 (Full m n) (w.setCell ⟨E.b,15,none⟩ (.int .u16 v)):=by
 obtain⟨sv,ov,S,k,i,hm,hf,hk,hp⟩:=h;exact⟨sv,ov,_,k,i,hm.dF v hv,hf.set _ _,⟨hk.ram,hk.out,hk.stk⟩,hp⟩
theorem Jt.Lh{sv0 ov0:Value}{w0:World}{m n:Nat}(h:Jt E S0 sv0 ov0 w0 (Full m n) w)(v:Int)(hv:I64 v):Jt E S0 sv0 ov0 w0 (Full m n) (w.setCell ⟨E.b,19,none⟩ (.int .i64 v)):=by
 obtain⟨sv,ov,S,k,i,hm,hf,hk,hp⟩:=h;exact⟨sv,ov,_,k,i,hm.fQ v hv,hf.set _ _,⟨hk.ram,hk.out,hk.stk⟩,hp⟩
theorem qU(S:Ms):bJ S=psh (psh S (S.aF%65536)) S.pc:=rfl
set_option maxHeartbeats 4000000 in
theorem Ci(k:Nat)(s im ax bk sz:Int)(h:Mq E sv ov S S.sp 0 0 w)(hk:k < 8)(hm:U16 im)(hx:U16 ax)(b0:0≤bk)(b1:bk < 256):
 Calls Tryz.prog 71 #[.pointer (some ⟨E.b,0,none⟩),.agg #[.int .i64 130,.int .i64 (k:Int),.int .i64 s,.int .u16 im,.int .u16 ax,.int .i64 bk,.int .i64 sz],.int .u16 S.pc] w (PsE E sv ov S w (room S 2 (jmp (bJ S) im))):=by
 obtain⟨n0,n1,n2,n3,n4,n5,n6⟩:=aG w 130 k s im ax bk sz;have HB:=Nc (heap_alloc_new w (.cells #[.int .i64 130,.int .i64 (k:Int),.int .i64 s,.int .u16 im,.int .u16 ax,.int .i64 bk,.int .i64 sz] 58));have H:=Nc (h.alloc (.cells #[.int .i64 130,.int .i64 (k:Int),.int .i64 s,.int .u16 im,.int .u16 ax,.int .i64 bk,.int .i64 sz] 58));have HF:=Nc ((Frq.refl E sv ov w).alloc (.cells #[.int .i64 130,.int .i64 (k:Int),.int .i64 s,.int .u16 im,.int .u16 ax,.int .i64 bk,.int .i64 sz] 58));have hne:E.b≠w.heap.size:=by have:=h.lt;omega
 have hf:=H.out.frz;have c15:=H.out.at 15 (.int .u16 S.pc) rfl;have c19:=H.out.at 19 (.int .i64 S.aF) rfl;have HM:=Nc hm;obtain⟨m0,m1⟩:=hm;have hpc:=h.ok.pc;have hwb:IntKind.u16.wrap S.aF=S.aF%65536:=IntKind.wrap_u16 _;have hw:IntKind.u16.wrap (S.pc+im)=(S.pc+im)%65536:=IntKind.wrap_u16 _;have HU:=Nc (And.intro (dU S.aF) (And.intro hpc (dU (S.pc+im))));by_cases hq:S.sp+2≤4096
 ·have e:room S 2 (jmp (bJ S) im)= .ok (jmp (bJ S) im):=by unfold room;rw[if_pos hq]
  rw[e];have HP:=Nc (fB (S.aF%65536) H.out (Nat.le_refl _) (by omega) HU.out.1);have HP2:=Nc (fun sv' W (hm:Mq E sv' ov (psh S (S.aF%65536)) S.sp 0 0 W)=>fB S.pc hm (show S.sp≤S.sp+1 by omega) (show S.sp+1 < 4096 by omega) HU.out.2.1);have HS:=Nc (fun sv' W (hm:Mq E sv' ov (bJ S) S.sp 0 0 W)=>(show Mq E sv' ov (jmp (bJ S) im) S.sp 0 0 _ from hm.dF ((S.pc+im)%65536) HU.out.2.2));have HC:=Nc (fun sv' W (hm:Mq E sv' ov (bJ S) S.sp 0 0 W)=>And.intro (hm.at 15 (.int .u16 S.pc) rfl) (hm.at 19 (.int .i64 S.aF) rfl));obtain⟨b,hb⟩:∃ b,S.aF%65536=b:=⟨_,rfl⟩;rw[hb] at hwb HP;have HP2':Hid (∀ sv' W,Mq E sv' ov (psh S b) S.sp 0 0 W→Calls Tryz.prog 117 #[.pointer (some ⟨E.b,0,none⟩),.int .u16 S.pc] W fun e w'=>e= .returned (.tuple #[])∧∃ sv2,Mq E sv2 ov (bJ S) S.sp 0 0 w'∧Frq E sv' ov W sv2 ov w'):=Nc (fun sv' W hm=>by rw[qU,hb];exact(hb▸HP2).out sv' W hm);obtain⟨a,ha⟩:∃ a,(S.pc+im)%65536=a:=⟨_,rfl⟩;rw[ha] at hw HS;obtain⟨p0,p1⟩:=hpc;clear h e hq hb ha HP2 HU;go_enter Tryz.func71,Tryz.ntmps71
  go_wp2_with fail
  refine HP.out.mono ?_;rintro e w1 ⟨rfl,sv1,hm1,hf1⟩;have H1:=Nc hm1;have F1:=Nc hf1;clear hm1 hf1;go_wp2_with fail
  refine(HP2'.out _ _ H1.out).mono ?_;rintro e w2 ⟨rfl,sv2,hm2,hf2⟩;have H2:=Nc (HS.out _ _ hm2);have F2:=Nc (HF.out.trans (F1.out.trans hf2));obtain⟨d15,d19⟩:=HC.out _ _ hm2;have mf2:=hm2.frz;obtain⟨i0,i1,i3,i4,i5⟩:=gm ((F1.out.trans hf2).keep H.out HB.out);clear hm2 hf2 c15 c19;go_wp2_with fail
  go_end0
  exact PsE.okk rfl rfl H2.out (F2.out.set _ _)
 ·have e:room S 2 (jmp (bJ S) im)= .tr 5 0:=by unfold room;rw[if_neg hq]
  rw[e];have HP:=Nc (fU (S.aF%65536) 1 (show Jt E S sv ov _ (Full 2 S.sp) _ from⟨sv,ov,S,0,0,H.out,Frq.refl _ _ _ _,Kp.refl S,Nat.le_refl _,.inr ⟨rfl,rfl,by omega⟩⟩) HU.out.1);have HB2:=Nc (show I64 bk from⟨by omega,by omega⟩);obtain⟨b,hb⟩:∃ b,S.aF%65536=b:=⟨_,rfl⟩;rw[hb] at hwb HP;obtain⟨a,ha⟩:∃ a,(S.pc+im)%65536=a:=⟨_,rfl⟩;rw[ha] at hw HU;obtain⟨p0,p1⟩:=hpc;clear h e hq hb ha;go_enter Tryz.func71,Tryz.ntmps71
  go_wp2_with fail
  refine HP.out.mono ?_;rintro e w1 ⟨rfl,hJ⟩;have HP2:=Nc (fU S.pc 0 hJ HU.out.2.1);clear hJ;go_wp2_with fail
  refine HP2.out.mono ?_;rintro e w2 ⟨rfl,hJ⟩;obtain⟨⟨x15,d15⟩,_,_,⟨x19,d19⟩,_,dg⟩:=hJ.cells;obtain⟨i0,i1,i3,i4,i5⟩:=gm (hJ.keep H.out HB.out);have HJ:=Nc (hJ.pcF a HU.out.2.2);clear hJ c15 c19;go_wp2_with fail
  go_end0
  exact PsE.jt rfl rfl (HJ.out.pre HF.out) sK
set_option maxHeartbeats 4000000 in
theorem Cf(k:Nat)(s im ax bk sz:Int)(h:Mq E sv ov S S.sp 0 0 w)(hk:k < 8)(hm:U16 im)(hx:U16 ax)(b0:0≤bk)(b1:bk < 256)(b2:bk < 64):
 Calls Tryz.prog 71 #[.pointer (some ⟨E.b,0,none⟩),.agg #[.int .i64 132,.int .i64 (k:Int),.int .i64 s,.int .u16 im,.int .u16 ax,.int .i64 bk,.int .i64 sz],.int .u16 S.pc] w (PsE E sv ov S w (room S 2 (gq (bJ S) bk im))):=by
 obtain⟨n0,n1,n2,n3,n4,n5,n6⟩:=aG w 132 k s im ax bk sz;have HB:=Nc (heap_alloc_new w (.cells #[.int .i64 132,.int .i64 (k:Int),.int .i64 s,.int .u16 im,.int .u16 ax,.int .i64 bk,.int .i64 sz] 58));have H:=Nc (h.alloc (.cells #[.int .i64 132,.int .i64 (k:Int),.int .i64 s,.int .u16 im,.int .u16 ax,.int .i64 bk,.int .i64 sz] 58));have HF:=Nc ((Frq.refl E sv ov w).alloc (.cells #[.int .i64 132,.int .i64 (k:Int),.int .i64 s,.int .u16 im,.int .u16 ax,.int .i64 bk,.int .i64 sz] 58));have hne:E.b≠w.heap.size:=by have:=h.lt;omega
 have hf:=H.out.frz;have c15:=H.out.at 15 (.int .u16 S.pc) rfl;have c19:=H.out.at 19 (.int .i64 S.aF) rfl;have HM:=Nc hm;obtain⟨m0,m1⟩:=hm;have hpc:=h.ok.pc;have hwb:IntKind.u16.wrap S.aF=S.aF%65536:=IntKind.wrap_u16 _;have hw:IntKind.u16.wrap (S.pc+im)=(S.pc+im)%65536:=IntKind.wrap_u16 _;have HU:=Nc (And.intro (dU S.aF) (And.intro hpc (dU (S.pc+im))));by_cases hq:S.sp+2≤4096
 ·have e:room S 2 (gq (bJ S) bk im)= .ok (gq (bJ S) bk im):=by unfold room;rw[if_pos hq]
  rw[e];have HP:=Nc (fB (S.aF%65536) H.out (Nat.le_refl _) (by omega) HU.out.1);have HP2:=Nc (fun sv' W (hm:Mq E sv' ov (psh S (S.aF%65536)) S.sp 0 0 W)=>fB S.pc hm (show S.sp≤S.sp+1 by omega) (show S.sp+1 < 4096 by omega) HU.out.2.1);have HG:=Nc (show gq (bJ S) bk im={bJ S with pc:=im,aF:=if 4096≤im∧im < 8192 then bk else(bJ S).aF} by unfold gq;rw[Int.emod_eq_of_lt b0 b2]);rw[HG.out];have HS:=Nc (fun sv' W (hm:Mq E sv' ov (bJ S) S.sp 0 0 W)=>(hm.dF ((S.pc+im)%65536) HU.out.2.2).dF im HM.out);have HT:=Nc (fun sv' W (hm:Mq E sv' ov (bJ S) S.sp 0 0 W)=>((hm.dF ((S.pc+im)%65536) HU.out.2.2).dF im HM.out).fQ bk ⟨by omega,by omega⟩);have HC:=Nc (fun sv' W (hm:Mq E sv' ov (bJ S) S.sp 0 0 W)=>And.intro (hm.at 15 (.int .u16 S.pc) rfl) (hm.at 19 (.int .i64 S.aF) rfl));obtain⟨b,hb⟩:∃ b,S.aF%65536=b:=⟨_,rfl⟩;rw[hb] at hwb HP;have HP2':Hid (∀ sv' W,Mq E sv' ov (psh S b) S.sp 0 0 W→Calls Tryz.prog 117 #[.pointer (some ⟨E.b,0,none⟩),.int .u16 S.pc] W fun e w'=>e= .returned (.tuple #[])∧∃ sv2,Mq E sv2 ov (bJ S) S.sp 0 0 w'∧Frq E sv' ov W sv2 ov w'):=Nc (fun sv' W hm=>by rw[qU,hb];exact(hb▸HP2).out sv' W hm);obtain⟨a,ha⟩:∃ a,(S.pc+im)%65536=a:=⟨_,rfl⟩;rw[ha] at hw HS HT;obtain⟨p0,p1⟩:=hpc;clear h e hq hb ha HP2 HU HG;by_cases q0:4096≤im
  ·by_cases q1:im < 8192
   ·rw[if_pos ⟨q0,q1⟩]
    go_enter Tryz.func71,Tryz.ntmps71
    go_wp2_with fail
    refine HP.out.mono ?_;rintro e w1 ⟨rfl,sv1,hm1,hf1⟩;have H1:=Nc hm1;have F1:=Nc hf1;clear hm1 hf1;go_wp2_with fail
    refine(HP2'.out _ _ H1.out).mono ?_;rintro e w2 ⟨rfl,sv2,hm2,hf2⟩;have H2:=Nc (HT.out _ _ hm2);have F2:=Nc (HF.out.trans (F1.out.trans hf2));obtain⟨d15,d19⟩:=HC.out _ _ hm2;have mf2:=hm2.frz;obtain⟨i0,i1,i3,i4,i5⟩:=gm ((F1.out.trans hf2).keep H.out HB.out);clear hm2 hf2 c15 c19;go_wp2_with fail
    go_end0
    exact PsE.okk rfl rfl H2.out (((F2.out.set _ _).set _ _).set _ _)
   ·rw[if_neg (fun c=>q1 c.2)]
    go_enter Tryz.func71,Tryz.ntmps71
    go_wp2_with fail
    refine HP.out.mono ?_;rintro e w1 ⟨rfl,sv1,hm1,hf1⟩;have H1:=Nc hm1;have F1:=Nc hf1;clear hm1 hf1;go_wp2_with fail
    refine(HP2'.out _ _ H1.out).mono ?_;rintro e w2 ⟨rfl,sv2,hm2,hf2⟩;have H2:=Nc (HS.out _ _ hm2);have F2:=Nc (HF.out.trans (F1.out.trans hf2));obtain⟨d15,d19⟩:=HC.out _ _ hm2;have mf2:=hm2.frz;obtain⟨i0,i1,i3,i4,i5⟩:=gm ((F1.out.trans hf2).keep H.out HB.out);clear hm2 hf2 c15 c19;go_wp2_with fail
    go_end0
    exact PsE.okk rfl rfl H2.out ((F2.out.set _ _).set _ _)
  ·rw[if_neg (fun c=>q0 c.1)]
   go_enter Tryz.func71,Tryz.ntmps71
   go_wp2_with fail
   refine HP.out.mono ?_;rintro e w1 ⟨rfl,sv1,hm1,hf1⟩;have H1:=Nc hm1;have F1:=Nc hf1;clear hm1 hf1;go_wp2_with fail
   refine(HP2'.out _ _ H1.out).mono ?_;rintro e w2 ⟨rfl,sv2,hm2,hf2⟩;have H2:=Nc (HS.out _ _ hm2);have F2:=Nc (HF.out.trans (F1.out.trans hf2));obtain⟨d15,d19⟩:=HC.out _ _ hm2;have mf2:=hm2.frz;obtain⟨i0,i1,i3,i4,i5⟩:=gm ((F1.out.trans hf2).keep H.out HB.out);clear hm2 hf2 c15 c19;go_wp2_with fail
   go_end0
   exact PsE.okk rfl rfl H2.out ((F2.out.set _ _).set _ _)
 ·have e:room S 2 (gq (bJ S) bk im)= .tr 5 0:=by unfold room;rw[if_neg hq]
  rw[e];have HP:=Nc (fU (S.aF%65536) 1 (show Jt E S sv ov _ (Full 2 S.sp) _ from⟨sv,ov,S,0,0,H.out,Frq.refl _ _ _ _,Kp.refl S,Nat.le_refl _,.inr ⟨rfl,rfl,by omega⟩⟩) HU.out.1);have HB2:=Nc (show I64 bk from⟨by omega,by omega⟩);obtain⟨b,hb⟩:∃ b,S.aF%65536=b:=⟨_,rfl⟩;rw[hb] at hwb HP;obtain⟨a,ha⟩:∃ a,(S.pc+im)%65536=a:=⟨_,rfl⟩;rw[ha] at hw HU;obtain⟨p0,p1⟩:=hpc;clear h e hq hb ha;by_cases q0:4096≤im
  ·by_cases q1:im < 8192
   ·go_enter Tryz.func71,Tryz.ntmps71
    go_wp2_with fail
    refine HP.out.mono ?_;rintro e w1 ⟨rfl,hJ⟩;have HP2:=Nc (fU S.pc 0 hJ HU.out.2.1);clear hJ;go_wp2_with fail
    refine HP2.out.mono ?_;rintro e w2 ⟨rfl,hJ⟩;obtain⟨⟨x15,d15⟩,_,_,⟨x19,d19⟩,_,dg⟩:=hJ.cells;obtain⟨i0,i1,i3,i4,i5⟩:=gm (hJ.keep H.out HB.out);have HJ:=Nc (((hJ.pcF a HU.out.2.2).pcF im HM.out).Lh bk HB2.out);clear hJ c15 c19;go_wp2_with fail
    go_end0
    exact PsE.jt rfl rfl (HJ.out.pre HF.out) sK
   ·go_enter Tryz.func71,Tryz.ntmps71
    go_wp2_with fail
    refine HP.out.mono ?_;rintro e w1 ⟨rfl,hJ⟩;have HP2:=Nc (fU S.pc 0 hJ HU.out.2.1);clear hJ;go_wp2_with fail
    refine HP2.out.mono ?_;rintro e w2 ⟨rfl,hJ⟩;obtain⟨⟨x15,d15⟩,_,_,⟨x19,d19⟩,_,dg⟩:=hJ.cells;obtain⟨i0,i1,i3,i4,i5⟩:=gm (hJ.keep H.out HB.out);have HJ:=Nc ((hJ.pcF a HU.out.2.2).pcF im HM.out);clear hJ c15 c19;go_wp2_with fail
    go_end0
    exact PsE.jt rfl rfl (HJ.out.pre HF.out) sK
  ·go_enter Tryz.func71,Tryz.ntmps71
   go_wp2_with fail
   refine HP.out.mono ?_;rintro e w1 ⟨rfl,hJ⟩;have HP2:=Nc (fU S.pc 0 hJ HU.out.2.1);clear hJ;go_wp2_with fail
   refine HP2.out.mono ?_;rintro e w2 ⟨rfl,hJ⟩;obtain⟨⟨x15,d15⟩,_,_,⟨x19,d19⟩,_,dg⟩:=hJ.cells;obtain⟨i0,i1,i3,i4,i5⟩:=gm (hJ.keep H.out HB.out);have HJ:=Nc ((hJ.pcF a HU.out.2.2).pcF im HM.out);clear hJ c15 c19;go_wp2_with fail
   go_end0
   exact PsE.jt rfl rfl (HJ.out.pre HF.out) sK
set_option maxHeartbeats 4000000 in
theorem Cb(k:Nat)(s im ax bk sz:Int)(h:Mq E sv ov S S.sp 0 0 w)(hk:k < 8)(hm:U16 im)(hx:U16 ax)(b0:0≤bk)(b1:bk < 256):
 Calls Tryz.prog 71 #[.pointer (some ⟨E.b,0,none⟩),.agg #[.int .i64 133,.int .i64 (k:Int),.int .i64 s,.int .u16 im,.int .u16 ax,.int .i64 bk,.int .i64 sz],.int .u16 S.pc] w (PsE E sv ov S w (if S.r k < bk then iW E.I S ax (S.r k) else .ok (jmp S im))):=by
 obtain⟨n0,n1,n2,n3,n4,n5,n6⟩:=aG w 133 k s im ax bk sz;have HB:=Nc (heap_alloc_new w (.cells #[.int .i64 133,.int .i64 (k:Int),.int .i64 s,.int .u16 im,.int .u16 ax,.int .i64 bk,.int .i64 sz] 58));have H:=Nc (h.alloc (.cells #[.int .i64 133,.int .i64 (k:Int),.int .i64 s,.int .u16 im,.int .u16 ax,.int .i64 bk,.int .i64 sz] 58));have HF:=Nc ((Frq.refl E sv ov w).alloc (.cells #[.int .i64 133,.int .i64 (k:Int),.int .i64 s,.int .u16 im,.int .u16 ax,.int .i64 bk,.int .i64 sz] 58));have hne:E.b≠w.heap.size:=by have:=h.lt;omega
 have hf:=H.out.frz;have c15:=H.out.at 15 (.int .u16 S.pc) rfl;have c19:=H.out.at 19 (.int .i64 S.aF) rfl;have HM:=Nc hm;obtain⟨m0,m1⟩:=hm;have hpc:=h.ok.pc;have hk8:(k:Int) < 8:=by omega
 have cR:=(H.out.dF ((S.pc+im)%65536) (dU _)).cR k hk;have cR':=H.out.cR k hk;obtain⟨a0,a1⟩:=h.ok.r k hk;have hw:IntKind.u16.wrap (S.pc+im)=(S.pc+im)%65536:=IntKind.wrap_u16 _;have HS:=Nc (H.out.dF ((S.pc+im)%65536) (dU _));have hw6:IntKind.u16.wrap (ax+IntKind.u16.wrap (2*S.r k))=(ax+2*S.r k)%65536:=by rw[IntKind.wrap_u16,IntKind.wrap_u16];omega
 have hw7:IntKind.i64.wrap (S.r k)=S.r k:=IntWalk.i64_in _ (by omega);have HV:Hid (∀ W,Mq E sv ov {S with pc:=(S.pc+im)%65536} S.sp 0 0 W→Calls Tryz.prog 123 #[.pointer (some ⟨E.b,0,none⟩),.int .u16 ((ax+2*S.r k)%65536)] W (WvE E sv ov {S with pc:=(S.pc+im)%65536} S.sp W (iW E.I S ax (S.r k)))):=Nc (fun W hm=>su _ hm (dU _));have HJ:=Nc (show jmp S im={S with pc:=(S.pc+im)%65536} from rfl);rw[HJ.out];obtain⟨V,hV⟩:∃ V,iW E.I S ax (S.r k)=V:=⟨_,rfl⟩;rw[hV] at HV⊢;obtain⟨r,hr⟩:∃ r,S.r k=r:=⟨_,rfl⟩;obtain⟨t,ht⟩:∃ t,(ax+2*r)%65536=t:=⟨_,rfl⟩;rw[hr] at cR cR' a0 a1 hw6 hw7 HV⊢;rw[ht] at hw6 HV;obtain⟨a,ha⟩:∃ a,(S.pc+im)%65536=a:=⟨_,rfl⟩;rw[ha] at hw HS HV cR⊢;obtain⟨p0,p1⟩:=hpc;clear h hV hr ht ha HJ;by_cases q:r < bk
 ·rw[if_pos q]
  have hd:decide (r < bk)=true:=by simpa using q
  cases V with
  | ok S'=>
   go_enter Tryz.func71,Tryz.ntmps71
   go_wp2_with fail
   go_region
   go_wp2_with fail
   go_region_with ((go_at_call 123);(with_reducible refine(HV.out _ (by first | exact HS.out | exact HS.out.drew | exact HS.out.drew.drew)).mono ?_);rintro e w' ⟨rfl,hm',hf'⟩;have HX:=Nc (And.intro hm' (HF.out.trans ((((Frq.refl _ _ _ _).set 15 (.int .u16 a)).trans (by first | exact hf' | exact(Frq.below (Below.refl _ _).drew).trans hf' | exact(Frq.below (Below.refl _ _).drew.drew).trans hf')))));obtain⟨i0,i1,i3,i4,i5⟩:=gm (((((Frq.refl _ _ _ _).set 15 (.int .u16 a)).trans (by first | exact hf' | exact(Frq.below (Below.refl _ _).drew).trans hf' | exact(Frq.below (Below.refl _ _).drew.drew).trans hf'))).keep H.out HB.out);clear hm' hf')
   all_goals
    go_wp2_with fail
    go_end0
    first | exact PsE.okk rfl rfl HX.out.1 HX.out.2 | exact PsE.okk rfl rfl HX.out.1.drew HX.out.2.drew
  | tr t' i'=>
   go_enter Tryz.func71,Tryz.ntmps71
   go_wp2_with fail
   go_region
   go_wp2_with fail
   go_region_with ((go_at_call 123);(with_reducible refine(HV.out _ (by first | exact HS.out | exact HS.out.drew | exact HS.out.drew.drew)).mono ?_);rintro e w' ⟨rfl,hm',hf'⟩;have HX:=Nc (And.intro hm' (HF.out.trans ((((Frq.refl _ _ _ _).set 15 (.int .u16 a)).trans (by first | exact hf' | exact(Frq.below (Below.refl _ _).drew).trans hf' | exact(Frq.below (Below.refl _ _).drew.drew).trans hf')))));obtain⟨i0,i1,i3,i4,i5⟩:=gm (((((Frq.refl _ _ _ _).set 15 (.int .u16 a)).trans (by first | exact hf' | exact(Frq.below (Below.refl _ _).drew).trans hf' | exact(Frq.below (Below.refl _ _).drew.drew).trans hf'))).keep H.out HB.out);clear hm' hf')
   all_goals
    go_wp2_with fail
    go_end0
    first | exact PsE.trr rfl rfl HX.out.1 ⟨rfl,rfl,fun _ _=>rfl⟩ HX.out.2 | exact PsE.trr rfl rfl HX.out.1.drew ⟨rfl,rfl,fun _ _=>rfl⟩ HX.out.2.drew
 ·rw[if_neg q]
  have hd:decide (r < bk)=false:=by simpa using q
  go_enter Tryz.func71,Tryz.ntmps71
  go_wp2_with fail
  go_region
  go_wp2_with fail
  go_end0
  exact PsE.okk rfl rfl HS.out.drew (HF.out.set _ _).drew
set_option maxHeartbeats 4000000 in
theorem zL(k:Nat)(s im ax bk sz:Int)(h:Mq E sv ov S S.sp 0 0 w)(hk:k < 8)(hm:U16 im)(hx:U16 ax)(b0:0≤bk)(b1:bk < 256):
 Calls Tryz.prog 71 #[.pointer (some ⟨E.b,0,none⟩),.agg #[.int .i64 134,.int .i64 (k:Int),.int .i64 s,.int .u16 im,.int .u16 ax,.int .i64 bk,.int .i64 sz],.int .u16 S.pc] w (PsE E sv ov S w (iW E.I S im (S.r k))):=by
 obtain⟨n0,n1,n2,n3,n4,n5,n6⟩:=aG w 134 k s im ax bk sz;have HB:=Nc (heap_alloc_new w (.cells #[.int .i64 134,.int .i64 (k:Int),.int .i64 s,.int .u16 im,.int .u16 ax,.int .i64 bk,.int .i64 sz] 58));have H:=Nc (h.alloc (.cells #[.int .i64 134,.int .i64 (k:Int),.int .i64 s,.int .u16 im,.int .u16 ax,.int .i64 bk,.int .i64 sz] 58));have HF:=Nc ((Frq.refl E sv ov w).alloc (.cells #[.int .i64 134,.int .i64 (k:Int),.int .i64 s,.int .u16 im,.int .u16 ax,.int .i64 bk,.int .i64 sz] 58));have hne:E.b≠w.heap.size:=by have:=h.lt;omega
 have hf:=H.out.frz;have c15:=H.out.at 15 (.int .u16 S.pc) rfl;have c19:=H.out.at 19 (.int .i64 S.aF) rfl;have HM:=Nc hm;obtain⟨m0,m1⟩:=hm;have hpc:=h.ok.pc;have hk8:(k:Int) < 8:=by omega
 have cR':=H.out.cR k hk;obtain⟨a0,a1⟩:=h.ok.r k hk;have hw6:IntKind.u16.wrap (im+IntKind.u16.wrap (2*S.r k))=(im+2*S.r k)%65536:=by rw[IntKind.wrap_u16,IntKind.wrap_u16];omega
 have HV:Hid (∀ W,Mq E sv ov S S.sp 0 0 W→Calls Tryz.prog 123 #[.pointer (some ⟨E.b,0,none⟩),.int .u16 ((im+2*S.r k)%65536)] W (WvE E sv ov S S.sp W (iW E.I S im (S.r k)))):=Nc (fun W hm=>su _ hm (dU _));obtain⟨V,hV⟩:∃ V,iW E.I S im (S.r k)=V:=⟨_,rfl⟩;rw[hV] at HV⊢;obtain⟨r,hr⟩:∃ r,S.r k=r:=⟨_,rfl⟩;obtain⟨t,ht⟩:∃ t,(im+2*r)%65536=t:=⟨_,rfl⟩;rw[hr] at cR' a0 a1 hw6 HV;rw[ht] at hw6 HV;obtain⟨p0,p1⟩:=hpc;clear h hV hr ht;cases V with
 | ok S'=>
  go_enter Tryz.func71,Tryz.ntmps71
  go_wp2_with fail
  go_region_with ((go_at_call 123);(with_reducible refine(HV.out _ (by first | exact H.out | exact H.out.drew)).mono ?_);rintro e w' ⟨rfl,hm',hf'⟩;have HX:=Nc (And.intro hm' (HF.out.trans (by first | exact hf' | exact(Frq.below (Below.refl _ _).drew).trans hf')));obtain⟨i0,i1,i3,i4,i5⟩:=gm (hf'.keep (by first | exact H.out | exact H.out.drew) HB.out);clear hm' hf')
  all_goals
   go_wp2_with fail
   go_end0
   first | exact PsE.okk rfl rfl HX.out.1 HX.out.2 | exact PsE.okk rfl rfl HX.out.1.drew HX.out.2.drew
 | tr t' i'=>
  go_enter Tryz.func71,Tryz.ntmps71
  go_wp2_with fail
  go_region_with ((go_at_call 123);(with_reducible refine(HV.out _ (by first | exact H.out | exact H.out.drew)).mono ?_);rintro e w' ⟨rfl,hm',hf'⟩;have HX:=Nc (And.intro hm' (HF.out.trans (by first | exact hf' | exact(Frq.below (Below.refl _ _).drew).trans hf')));obtain⟨i0,i1,i3,i4,i5⟩:=gm (hf'.keep (by first | exact H.out | exact H.out.drew) HB.out);clear hm' hf')
  all_goals
   go_wp2_with fail
   go_end0
   first | exact PsE.trr rfl rfl HX.out.1 (Kp.refl S) HX.out.2 | exact PsE.trr rfl rfl HX.out.1.drew (Kp.refl S) HX.out.2.drew
end

section
variable {E:Qe} {sv ov:Value} {S S0:Ms} {d:Nat} {k i:Int} {w:World}
theorem kM{X:Ms}(h:Mq E sv ov X d k i w)(n:Nat)(v:Int)(hs:X.sp=n+1)(hv:X.stk n=v):
 Calls Tryz.prog 118 #[.pointer (some ⟨E.b,0,none⟩)] w fun e w'=>e= .returned (.int .u16 v)∧∃ sv',Mq E sv' ov {X with sp:=n} d k i w'∧Frq E sv ov w sv' ov w':=by
 have:=jJ h (by omega);rw[show X.sp-1=n by omega,hv] at this;exact this
def irT(S:Ms)(m:Nat):Ms:={S with sp:=S.sp-(8-m),r:=fun i=>if m≤i∧i < 8 then S.stk (S.sp-8+i) else S.r i}
theorem LV(S:Ms):irT S 8=S:=by
 unfold irT;have:(fun i=>if 8≤i∧i < 8 then S.stk (S.sp-8+i) else S.r i)=S.r:=by funext i;rw[if_neg (by omega)]
 rw[this];rfl
theorem Dx(S:Ms)(m:Nat)(hm:m < 8)(hs:12≤S.sp):({irT S (m+1) with sp:=S.sp-(8-m),r:=upd (irT S (m+1)).r m (S.stk (S.sp-8+m))} :Ms)=irT S m:=by
 unfold irT;have:upd (fun i=>if m+1≤i∧i < 8 then S.stk (S.sp-8+i) else S.r i) m (S.stk (S.sp-8+m))=fun i=>if m≤i∧i < 8 then S.stk (S.sp-8+i) else S.r i:=by
  funext i
  unfold upd;by_cases e:i=m
  ·subst e;rw[if_pos rfl,if_pos (by omega)]
  ·rw[if_neg e]
   show(if m+1≤i∧i < 8 then S.stk (S.sp-8+i) else S.r i)=_
   by_cases c:m+1≤i∧i < 8
   ·rw[if_pos c,if_pos (by omega)]
   ·rw[if_neg c,if_neg (by omega)]
 simp only[this]
theorem Gi(S:Ms)(h:12≤S.sp):jP S= .ok {irT S 0 with fp:=S.stk (S.sp-9),f:=S.stk (S.sp-10)%16,pc:=S.stk (S.sp-11),aF:=S.stk (S.sp-12)%64,sp:=S.sp-12}:=by
 unfold jP;rw[if_pos h];unfold irT;have:(fun k=>if k < 8 then S.stk (S.sp-8+k) else S.r k)=fun i=>if 0≤i∧i < 8 then S.stk (S.sp-8+i) else S.r i:=by
  funext i
  by_cases c:i < 8
  ·rw[if_pos c,if_pos ⟨Nat.zero_le _,c⟩]
  ·rw[if_neg c,if_neg (fun x=>c x.2)]
 simp only[this]
set_option maxHeartbeats 4000000 in
theorem zN(k:Nat)(s im ax bk sz:Int)(h:Mq E sv ov S S.sp 0 0 w)(hk:k < 8)(hm:U16 im)(hx:U16 ax)(b0:0≤bk)(b1:bk < 256):
 Calls Tryz.prog 71 #[.pointer (some ⟨E.b,0,none⟩),.agg #[.int .i64 3,.int .i64 (k:Int),.int .i64 s,.int .u16 im,.int .u16 ax,.int .i64 bk,.int .i64 sz],.int .u16 S.pc] w (PsE E sv ov S w (jP S)):=by
 obtain⟨n0,n1,n2,n3,n4,n5,n6⟩:=aG w 3 k s im ax bk sz;have HB:=Nc (heap_alloc_new w (.cells #[.int .i64 3,.int .i64 (k:Int),.int .i64 s,.int .u16 im,.int .u16 ax,.int .i64 bk,.int .i64 sz] 58));have H:=Nc (h.alloc (.cells #[.int .i64 3,.int .i64 (k:Int),.int .i64 s,.int .u16 im,.int .u16 ax,.int .i64 bk,.int .i64 sz] 58));have HF:=Nc ((Frq.refl E sv ov w).alloc (.cells #[.int .i64 3,.int .i64 (k:Int),.int .i64 s,.int .u16 im,.int .u16 ax,.int .i64 bk,.int .i64 sz] 58));have hne:E.b≠w.heap.size:=by have:=h.lt;omega
 have hf:=H.out.frz;have c15:=H.out.at 15 (.int .u16 S.pc) rfl;have c19:=H.out.at 19 (.int .i64 S.aF) rfl;have HM:=Nc hm;obtain⟨m0,m1⟩:=hm;have hpc:=h.ok.pc;have hsp:=h.ok.sp;obtain⟨p0,p1⟩:=hpc;by_cases hq:12≤S.sp
 ·rw [Gi S hq]
  have U9:=h.ok.stk (S.sp-9) (by omega);have U10:=h.ok.stk (S.sp-10) (by omega);have U11:=h.ok.stk (S.sp-11) (by omega);have U12:=h.ok.stk (S.sp-12) (by omega);have HUr:=Nc (fun (m:Nat) (hm:m < 8)=>h.ok.stk (S.sp-8+m) (by omega));obtain⟨v9,e9⟩:∃ v,S.stk (S.sp-9)=v:=⟨_,rfl⟩;obtain⟨v10,e10⟩:∃ v,S.stk (S.sp-10)=v:=⟨_,rfl⟩;obtain⟨v11,e11⟩:∃ v,S.stk (S.sp-11)=v:=⟨_,rfl⟩;obtain⟨v12,e12⟩:∃ v,S.stk (S.sp-12)=v:=⟨_,rfl⟩;rw[e9] at U9⊢;rw[e10] at U10⊢;rw[e11] at U11⊢;rw[e12] at U12⊢;have t10:=bu v10 16 U10.1;have t12:=bu v12 64 U12.1;have HE:=Nc (And.intro e9 (And.intro e10 (And.intro e11 e12)));have HU:=Nc (And.intro U9 (And.intro U10 (And.intro U11 U12)));have HQ:=Nc hq;clear h hq hsp e9 e10 e11 e12 U9 U10 U11 U12 c15 c19 hf;go_enter Tryz.func71,Tryz.ntmps71
  go_wp2_with fail
  go_loopw [6] (fun i wr=>∃ m:Nat,m≤8∧i= .int .i64 ((m:Int)-1)∧Hid (∃ sv',Mq E sv' ov (irT S m) S.sp 0 0 wr∧Frq E sv ov _ sv' ov wr)) (fun i _=>(intOf i+1).toNat)
  case atStart=>exact⟨8,Nat.le_refl _,rfl,Nc ⟨sv,(LV S).symm▸H.out,Frq.refl _ _ _ _⟩⟩
  case round=>
   obtain⟨m,hm8,rfl,HK⟩:=hrel;obtain⟨sv',hm',hf'⟩:=HK.out;by_cases hz:m=0
   ·subst hz
    rw[show(((0:Nat):Int)-1)= -1 from rfl];have HP:=Nc (kM hm' (S.sp-9) v9 (show S.sp-8=_ by have:=HQ.out;omega) HE.out.1);have HK':=Nc hf';clear hm' hf';go_wp2_with fail
    refine HP.out.mono ?_;rintro e w1 ⟨rfl,sv1,hm1,hf1⟩;have H1:=Nc (hm1.kW v9 HU.out.1);have F1:=Nc ((HK'.out.trans hf1).set 17 (.int .u16 v9));have d1:=hm1.at 17 (.int .u16 S.fp) rfl;have g1:=hm1.frz;clear hm1 hf1;go_wp2_with fail
    refine(kM H1.out (S.sp-10) v10 (show S.sp-9=_ by have:=HQ.out;omega) HE.out.2.1).mono ?_;rintro e w2 ⟨rfl,sv2,hm2,hf2⟩;have H2:=Nc (hm2.oL (v10%16) ⟨by omega,by omega⟩);have F2:=Nc ((F1.out.trans hf2).set 18 (.int .u16 (v10%16)));have d2:=hm2.at 18 (.int .u16 S.f) rfl;have g2:=hm2.frz;clear hm2 hf2;go_wp2_with fail
    refine(kM H2.out (S.sp-11) v11 (show S.sp-10=_ by have:=HQ.out;omega) HE.out.2.2.1).mono ?_;rintro e w3 ⟨rfl,sv3,hm3,hf3⟩;have H3:=Nc (hm3.dF v11 HU.out.2.2.1);have F3:=Nc ((F2.out.trans hf3).set 15 (.int .u16 v11));have d3:=hm3.at 15 (.int .u16 S.pc) rfl;have g3:=hm3.frz;clear hm3 hf3;go_wp2_with fail
    refine(kM H3.out (S.sp-12) v12 (show S.sp-11=_ by have:=HQ.out;omega) HE.out.2.2.2).mono ?_;rintro e w4 ⟨rfl,sv4,hm4,hf4⟩;have H4:=Nc (hm4.fQ (v12%64) (wu v12));have F4:=Nc (HF.out.trans ((F3.out.trans hf4).set 19 (.int .i64 (v12%64))));have d4:=hm4.at 19 (.int .i64 S.aF) rfl;have g4:=hm4.frz;obtain⟨i0,i1,i3,i4,i5⟩:=gm ((F3.out.trans hf4).keep H.out HB.out);clear hm4 hf4;go_wp2_with fail
    go_end0
    exact PsE.okk rfl rfl H4.out F4.out
   ·obtain⟨m',rfl⟩:∃ m',m=m'+1:=⟨m-1,by omega⟩
    rw[show(((m'+1:Nat):Int)-1)=(m':Int) by omega];have hm7:(m':Int) < 8:=by omega
    have hs1:=HQ.out;have HP:=Nc (kM hm' (S.sp-(8-m')) (S.stk (S.sp-8+m')) (show S.sp-(8-(m'+1))=_ by omega) (show S.stk _=_ by congr 1;omega));have HU':=Nc (HUr.out m' (by omega));have HC:=Nc (fun sv2 W (hm:Mq E sv2 ov {irT S (m'+1) with sp:=S.sp-(8-m')} S.sp 0 0 W)=>hm.cR m' (by omega));have HN:=Nc (fun sv2 W (hm:Mq E sv2 ov {irT S (m'+1) with sp:=S.sp-(8-m')} S.sp 0 0 W)=>(show Mq E sv2 ov (irT S m') S.sp 0 0 _ from Dx S m' (by omega) hs1▸hm.aZ m' (by omega) _ HU'.out));have HK':=Nc hf';obtain⟨v,hv⟩:∃ v,S.stk (S.sp-8+m')=v:=⟨_,rfl⟩;rw[hv] at HP HN;have HM':=Nc (And.intro hm' hm');have hm0:∀ W,W=wr∨W=wr.drew→Calls Tryz.prog 118 #[.pointer (some ⟨E.b,0,none⟩)] W fun e w'=>e= .returned (.int .u16 v)∧∃ sv2,Mq E sv2 ov {irT S (m'+1) with sp:=S.sp-(8-m')} S.sp 0 0 w'∧Frq E sv' ov W sv2 ov w':=fun W hW=>by
     have hx:Mq E sv' ov (irT S (m'+1)) S.sp 0 0 W:=by rcases hW with rfl | rfl;exact hm';exact hm'.drew
     exact kM hx (S.sp-(8-m')) v (show S.sp-(8-(m'+1))=_ by omega) (show S.stk _=_ by rw[← hv];congr 1;omega)
    have HP':=Nc hm0;clear hm' hf' hv hs1 hm0 HP;go_wp2_with fail
    go_region_with ((go_at_call 118);(with_reducible refine(HP'.out _ (by first | exact .inl rfl | exact .inr rfl)).mono ?_);rintro e w' ⟨rfl,sv2,hm2,hf2⟩;have HX:=Nc (And.intro (HN.out _ _ hm2) (HK'.out.trans (by first | exact hf2 | exact(Frq.below (Below.refl _ _).drew).trans hf2)));have mf:=hm2.frz;have mc:=HC.out _ _ hm2;clear hm2 hf2)
    all_goals
     go_wp2_with fail
     go_roundw
     case rel=>exact⟨m',by omega,rfl,by first | exact Nc ⟨_,HX.out.1,HX.out.2.set _ _⟩ | exact Nc ⟨_,HX.out.1.drew,(HX.out.2.set _ _).drew⟩⟩
     case measure=>simp[intOf]
 ·have e:jP S= .tr 5 0:=by unfold jP;rw[if_neg hq]
  rw[e];have hJ0:Jt E S sv ov (w.alloc (.cells #[.int .i64 3,.int .i64 (k:Int),.int .i64 s,.int .u16 im,.int .u16 ax,.int .i64 bk,.int .i64 sz] 58)) (jB 12) (w.alloc (.cells #[.int .i64 3,.int .i64 (k:Int),.int .i64 s,.int .u16 im,.int .u16 ax,.int .i64 bk,.int .i64 sz] 58)):=⟨sv,ov,S,0,0,H.out,Frq.refl _ _ _ _,Kp.refl S,.inr ⟨rfl,rfl,by omega⟩⟩;have HJ0:=Nc hJ0;clear h e hq hsp c15 c19 hf hJ0;go_enter Tryz.func71,Tryz.ntmps71
  go_wp2_with fail
  go_loopw [6] (fun i wr=>∃ m:Nat,m≤8∧i= .int .i64 ((m:Int)-1)∧Hid (Jt E S sv ov (w.alloc (.cells #[.int .i64 3,.int .i64 (k:Int),.int .i64 s,.int .u16 im,.int .u16 ax,.int .i64 bk,.int .i64 sz] 58)) (jB (4+m)) wr)) (fun i _=>(intOf i+1).toNat)
  case atStart=>exact⟨8,Nat.le_refl _,rfl,HJ0⟩
  case round=>
   obtain⟨m,hm8,rfl,HK⟩:=hrel;by_cases hz:m=0
   ·subst hz
    rw[show(((0:Nat):Int)-1)= -1 from rfl];have HP:=Nc (jI 3 HK.out);go_wp2_with fail
    refine HP.out.mono ?_;rintro e w1 ⟨⟨v9,hu,rfl⟩,hJ⟩;obtain⟨_,⟨x1,d1⟩,_,_,_,g1⟩:=hJ.cells;have HP2:=Nc (jI 2 (hJ.fp v9 hu));clear hJ hu;go_wp2_with fail
    refine HP2.out.mono ?_;rintro e w2 ⟨⟨v10,hu,rfl⟩,hJ⟩;obtain⟨_,_,⟨x2,d2⟩,_,_,g2⟩:=hJ.cells;have t10:=bu v10 16 hu.1;obtain⟨u0,u1⟩:=hu;have HP3:=Nc (jI 1 (hJ.f (v10%16) ⟨by omega,by omega⟩));clear hJ;go_wp2_with fail
    refine HP3.out.mono ?_;rintro e w3 ⟨⟨v11,hu,rfl⟩,hJ⟩;obtain⟨⟨x3,d3⟩,_,_,_,_,g3⟩:=hJ.cells;have HP4:=Nc (jI 0 (hJ.pc v11 hu));clear hJ hu;go_wp2_with fail
    refine HP4.out.mono ?_;rintro e w4 ⟨⟨v12,hu,rfl⟩,hJ⟩;obtain⟨_,_,_,⟨x4,d4⟩,_,g4⟩:=hJ.cells;have t12:=bu v12 64 hu.1;obtain⟨y0,y1⟩:=hu;obtain⟨i0,i1,i3,i4,i5⟩:=gm (hJ.keep H.out HB.out);have HJ:=Nc (hJ.aF (v12%64) (wu v12));clear hJ;go_wp2_with fail
    go_end0
    exact PsE.jt rfl rfl (HJ.out.pre HF.out) Dl
   ·obtain⟨m',rfl⟩:∃ m',m=m'+1:=⟨m-1,by omega⟩
    rw[show(((m'+1:Nat):Int)-1)=(m':Int) by omega];have hm7:(m':Int) < 8:=by omega
    have hm0:∀ W,W=wr∨W=wr.drew→Calls Tryz.prog 118 #[.pointer (some ⟨E.b,0,none⟩)] W fun e w'=>H7 e∧Jt E S sv ov (w.alloc (.cells #[.int .i64 3,.int .i64 (k:Int),.int .i64 s,.int .u16 im,.int .u16 ax,.int .i64 bk,.int .i64 sz] 58)) (jB (4+m')) w':=fun W hW=>by
     rcases hW with rfl|rfl
     ·exact jI (4+m') HK.out
     ·exact jI (4+m') HK.out.drew
    have HP':=Nc hm0;have HN:=Nc (fun W v (hJ:Jt E S sv ov (w.alloc (.cells #[.int .i64 3,.int .i64 (k:Int),.int .i64 s,.int .u16 im,.int .u16 ax,.int .i64 bk,.int .i64 sz] 58)) (jB (4+m')) W) (hu:U16 v)=>And.intro (hJ.r m' (by omega) v hu) (hJ.cells.2.2.2.2.1 m' (by omega)));clear hm0;go_wp2_with fail
    go_region_with ((go_at_call 118);(with_reducible refine(HP'.out _ (by first | exact .inl rfl | exact .inr rfl)).mono ?_);rintro e w' ⟨⟨v,hu,rfl⟩,hJ⟩;obtain⟨hR,x,mc⟩:=HN.out _ _ hJ hu;have HX:=Nc hR;have mf:=hJ.cells.2.2.2.2.2;clear hJ hu hR)
    all_goals
     go_wp2_with fail
     go_roundw
     case rel=>exact⟨m',by omega,rfl,by first | exact HX | exact Nc HX.out.drew⟩
     case measure=>simp[intOf]
end
end Go.Proofs.YthkcloapiefggaaGreatDoor
