import Derived.Test.YthkcloapiefggaaGreatDoorQRqn
import Derived.Test.YthkcloapiefggaaGreatDoorQRlq
namespace Go.Proofs.YthkcloapiefggaaGreatDoor
set_option linter.unusedVariables false
set_option linter.unusedSimpArgs false
set_option maxRecDepth 100000
set_option maxHeartbeats 1000000
open Go.ChangeShapes Go.WideShapes Go.RowKit
def stQ(E:Qe)(S:Ms):List Value:=[.int .u16 (S.r 0),.int .u16 (S.r 1),.int .u16 (S.r 2),.int .u16 (S.r 3),.int .u16 (S.r 4),.int .u16 (S.r 5),.int .u16 (S.r 6),.int .u16 (S.r 7),.int .u16 S.pc,.int .u16 E.q,.int .u16 S.fp,.int .u16 S.f,.int .i64 S.aF,.int .i64 S.steps,.int .i64 S.inp,.int .i64 S.pol]
def rW(k:Nat)(f g:Nat→Int)(j:Nat):Int:=if j < k then f j else g j
section
variable {E:Qe} {sv ov:Value} {S S2:Ms} {d:Nat} {k i:Int} {w:World}
theorem Mq.EU(h:Mq E sv ov S d k i w):w.rangeAt E.b 7 (stQ E S):=fun j v hv=>by
 have hj:j < 16:=by have:=(List.getElem?_eq_some_iff.1 hv).1;simpa [stQ] using this
 refine h.at (7+j) v ?_;rw[← hv]
 rcases(show j=0∨j=1∨j=2∨j=3∨j=4∨j=5∨j=6∨j=7∨j=8∨j=9∨j=10∨j=11∨j=12∨j=13∨j=14∨j=15 by omega) with rfl|rfl|rfl|rfl|rfl|rfl|rfl|rfl|rfl|rfl|rfl|rfl|rfl|rfl|rfl|rfl<;>rfl
theorem Mq.EN(h:Mq E sv ov S d k i w):w.there E.b 7 16:=fun j hj=>by
 refine⟨?_,h.frz (7+j)⟩;have hs:7+j < (mqA E S sv ov k i).size:=by show 7+j < 28;omega
 rw[h.at (7+j) _ (Array.getElem?_eq_getElem hs)];rfl
theorem Mq.back(h:Mq E sv ov S2 d k i w)(hS:S.Ok):Mq E sv ov {S with ram:=S2.ram,stk:=S2.stk,sp:=S2.sp,out:=S2.out} d k i (w.setCells E.b 7 (stQ E S)):=by
 have hr:∀ n,∀ k,k < 8→U16 (rW n S.r S2.r k):=fun n k hk=>by unfold rW;split;exact hS.r k hk;exact h.ok.r k hk
 have h:=h.set1 (S':={S2 with r:=rW 1 S.r S2.r}) 7 (.int .u16 (S.r 0)) (by rfl) {h.ok with r:=hr 1} rfl rfl rfl rfl;have h:=h.set1 (S':={S2 with r:=rW 2 S.r S2.r}) 8 (.int .u16 (S.r 1)) (by rfl) {h.ok with r:=hr 2} rfl rfl rfl rfl;have h:=h.set1 (S':={S2 with r:=rW 3 S.r S2.r}) 9 (.int .u16 (S.r 2)) (by rfl) {h.ok with r:=hr 3} rfl rfl rfl rfl;have h:=h.set1 (S':={S2 with r:=rW 4 S.r S2.r}) 10 (.int .u16 (S.r 3)) (by rfl) {h.ok with r:=hr 4} rfl rfl rfl rfl;have h:=h.set1 (S':={S2 with r:=rW 5 S.r S2.r}) 11 (.int .u16 (S.r 4)) (by rfl) {h.ok with r:=hr 5} rfl rfl rfl rfl;have h:=h.set1 (S':={S2 with r:=rW 6 S.r S2.r}) 12 (.int .u16 (S.r 5)) (by rfl) {h.ok with r:=hr 6} rfl rfl rfl rfl;have h:=h.set1 (S':={S2 with r:=rW 7 S.r S2.r}) 13 (.int .u16 (S.r 6)) (by rfl) {h.ok with r:=hr 7} rfl rfl rfl rfl;have h:=h.set1 (S':={S2 with r:=S.r}) 14 (.int .u16 (S.r 7)) (by rfl) {h.ok with r:=hS.r} rfl rfl rfl rfl;have h:=h.set1 (S':={S2 with r:=S.r,pc:=S.pc}) 15 (.int .u16 S.pc) (by rfl) {h.ok with pc:=hS.pc} rfl rfl rfl rfl;have h:=h.set1 (S':={S2 with r:=S.r,pc:=S.pc}) 16 (.int .u16 E.q) (by rfl) h.ok rfl rfl rfl rfl;have h:=h.set1 (S':={S2 with r:=S.r,pc:=S.pc,fp:=S.fp}) 17 (.int .u16 S.fp) (by rfl) {h.ok with fp:=hS.fp} rfl rfl rfl rfl;have h:=h.set1 (S':={S2 with r:=S.r,pc:=S.pc,fp:=S.fp,f:=S.f}) 18 (.int .u16 S.f) (by rfl) {h.ok with f:=hS.f} rfl rfl rfl rfl;have h:=h.set1 (S':={S2 with r:=S.r,pc:=S.pc,fp:=S.fp,f:=S.f,aF:=S.aF}) 19 (.int .i64 S.aF) (by rfl) {h.ok with aF:=hS.aF} rfl rfl rfl rfl;have h:=h.set1 (S':={S2 with r:=S.r,pc:=S.pc,fp:=S.fp,f:=S.f,aF:=S.aF,steps:=S.steps}) 20 (.int .i64 S.steps) (by rfl) {h.ok with steps:=hS.steps} rfl rfl rfl rfl;have h:=h.set1 (S':={S2 with r:=S.r,pc:=S.pc,fp:=S.fp,f:=S.f,aF:=S.aF,steps:=S.steps,inp:=S.inp}) 21 (.int .i64 S.inp) (by rfl) {h.ok with inp:=hS.inp} rfl rfl rfl rfl;have h:=h.set1 (S':={S2 with r:=S.r,pc:=S.pc,fp:=S.fp,f:=S.f,aF:=S.aF,steps:=S.steps,inp:=S.inp,pol:=S.pol}) 22 (.int .i64 S.pol) (by rfl) {h.ok with pol:=hS.pol} rfl rfl rfl rfl;exact h
theorem Mq.Lj{p:Option Addr}{n c:Nat}(h:Mq E (.slice p n c) ov S2 S.sp k i w)(hk:Kp S S2)(hS:S.Ok):
 S.sp≤c∧Mq E (.slice p S.sp c) ov S S.sp k i ((w.setCells E.b 7 (stQ E S)).setCell ⟨E.b,24,none⟩ (.slice p S.sp c)):=by
 have h1:=h.back hS;have hst:=h1.st;have hc:S.sp≤c:=by
  rcases h.st with⟨a,b,e⟩|⟨g',c',A,hv,hb,hA,hs,h1,h2,h3,hf⟩
  ·omega
  ·simp only[Value.slice.injEq] at hv;omega
 refine⟨hc,h1.set 24 _ (by rfl) hS hk.ram.symm ?_ (by rw[← hk.out];exact h1.out) h1.own⟩;rcases hst with⟨a,b,e⟩|⟨g',c',A,hv,hb,hA,hs,h1,h2,h3,hf⟩
 ·simp only[Value.slice.injEq] at a
  obtain⟨rfl,_,rfl⟩:=a;exact .inl ⟨by rw[e],e,e⟩
 ·simp only[Value.slice.injEq] at hv
  obtain⟨rfl,_,rfl⟩:=hv;exact .inr ⟨g',c,A,rfl,hb,hA,hs,hc,hc,h3,fun j hj=>(hf j (.inr (by omega))).trans (by rw[show({S with ram:=S2.ram,stk:=S2.stk,sp:=S2.sp,out:=S2.out} :Ms).stk j=S.stk j from hk.stk j (by omega)])⟩
end
theorem zC{b g:Nat}(hg:g≠b)(vs:List Value):∀ (w:World) (o:Nat),(w.setCells b o vs).heap[g]? =w.heap[g]? :=by
 induction vs with
 | nil=>intro w o;rfl
 | cons v vs ih=>intro w o;exact(ih _ _).trans (dn w ⟨b,o,none⟩ v g hg)
structure Rb(N:Nat)(w:World):Prop where
 a:w.heap[N]? =some (.cells zS 40 (0,0))
 b:w.heap[N+1]? =some (.cells #[.int .i64 0,.int .u16 0] 47 (0,0))
theorem Rb.hi{N:Nat}{w:World}(h:Rb N w):N+2≤w.heap.size:=lt_of_block h.b
theorem Rb.keep{N:Nat}{E:Qe}{sv ov sv' ov':Value}{S:Ms}{d:Nat}{k i:Int}{w w':World}(h:Rb N w)(f:Frq E sv ov w sv' ov' w')(hm:Mq E sv ov S d k i w):Rb N w':=⟨f.keep hm h.a,f.keep hm h.b⟩
theorem Rb.alloc{N:Nat}{w:World}(h:Rb N w)(o:Obj):Rb N (w.alloc o):=⟨aj _ _ _ h.a,aj _ _ _ h.b⟩
theorem Rb.of{N:Nat}{w w':World}(h:Rb N w)(f:∀ g,g=N∨g=N+1→w'.heap[g]? =w.heap[g]?):Rb N w':=⟨(f _ (.inl rfl)).trans h.a,(f _ (.inr rfl)).trans h.b⟩
theorem BM{N N0 B0:Nat}{w0 w:World}{Y:Sn}{k i:Int}{p q:Option Addr}{c d:Nat}(h:Rb N w)(hs:SnH w Y p q)(hp:From N0 p)(hq:From N0 q)(h0:N+2≤N0)(hb:Below B0 w0 w)(hB:B0≤N):
 (w.setRow N (snA Y p c q d)).heap[N+1]? =some (.cells #[.int .i64 0,.int .u16 0] 47 (0,0))
 ∧((w.setRow N (snA Y p c q d)).setRow (N+1) #[.int .i64 k,.int .u16 i]).heap[N]? =some (.cells (snA Y p c q d) 40 (0,0))
 ∧((w.setRow N (snA Y p c q d)).setRow (N+1) #[.int .i64 k,.int .u16 i]).heap[N+1]? =some (.cells #[.int .i64 k,.int .u16 i] 47 (0,0))
 ∧SnH ((w.setRow N (snA Y p c q d)).setRow (N+1) #[.int .i64 k,.int .u16 i]) Y p q
 ∧Below B0 w0 ((w.setRow N (snA Y p c q d)).setRow (N+1) #[.int .i64 k,.int .u16 i]):=by
 have f4:(w.setRow N (snA Y p c q d)).heap[N+1]? =_:=(setRow_other w N _ _ (by omega)).trans h.b;exact⟨f4,(setRow_other _ (N+1) _ _ (by omega)).trans (setRow_heap w N _ _ _ _ h.a),setRow_heap _ (N+1) _ _ _ _ f4,hs.set2 hp hq (by omega) (by omega) _ _,below_setRow (below_setRow hb hB _) (by omega) _⟩
set_option maxHeartbeats 8000000 in
theorem BX{E:Qe}{sv ov:Value}{S:Ms}{w:World}(most:Nat)(h:Mq E sv ov S S.sp 0 0 w)(hm:most≤1000000)(hl:S.out.length+most≤1000000000):
 Calls Tryz.prog 37 #[.pointer (some ⟨E.b,0,none⟩),.int .i64 most] w fun e w'=>kK w.heap.size (au (eP E.I E.T most S).1) (eP E.I E.T most S).2.1 (eP E.I E.T most S).2.2 e w'∧Below E.w0.heap.size E.w0 w':=by
 obtain⟨R,hR⟩:∃ R,eP E.I E.T most S=R:=⟨_,rfl⟩;rw[hR];have HM:=Nc ((h.alloc (.cells zS 40)).alloc (.cells #[.int .i64 0,.int .u16 0] 47));have h1:=heap_alloc_new (w.alloc (.cells zS 40)) (.cells #[.int .i64 0,.int .u16 0] 47);rw[World.size_alloc] at h1;have HRb:=Nc (show Rb w.heap.size ((w.alloc (.cells zS 40)).alloc (.cells #[.int .i64 0,.int .u16 0] 47)) from⟨aj _ _ _ (heap_alloc_new w _),h1⟩);have HLo:=Nc h.bel.size;have HL:=Nc hl;have HR:=Nc hR;have HEbN:=Nc (show E.b < w.heap.size from h.lt);clear h h1 hl hR;go_enter Tryz.func37,Tryz.ntmps37
 go_upto_region 1 with fail
 obtain⟨W0,hW0⟩:∃ W,(w.alloc (.cells zS 40)).alloc (.cells #[.int .i64 0,.int .u16 0] 47)=W:=⟨_,rfl⟩;rw[hW0] at HM HRb;rw[hW0];obtain⟨N,hN⟩:∃ n,w.heap.size=n:=⟨_,rfl⟩;have HNe:=Nc hN;rw[hN] at HRb HLo HEbN⊢;clear hW0 hN;go_wp2_with fail
 go_loopw [6] (fun vk wr=>∃ (k:Nat) (S1:Ms) (sv ov:Value),k≤most∧vk= .int .i64 k∧Hid (eP E.I E.T (most-k) S1=R∧S1.out.length≤S.out.length+k)∧Hid (Mq E sv ov S1 S1.sp 0 0 wr)∧Hid (Rb N wr)) (fun vk _=>most-(intOf vk).toNat)
 case atStart=>exact⟨0,S,sv,ov,Nat.zero_le _,rfl,Nc ⟨HR.out,Nat.le_refl _⟩,HM,HRb⟩
 case round=>
 obtain⟨k,S1,sv1,ov1,hk,rfl,HR,HM,HRb⟩:=hrel;by_cases h8:k < most
 ·have h8':(k:Int) < most:=by omega
  obtain⟨Rs,hRs⟩:∃ R,eQ E.I E.T S1=R:=⟨_,rfl⟩;have hrok:=jl E.I E.T S1;have hRg:=HM.out.EU;have HRg:=Nc hRg;obtain⟨p1,c1,hsv,hc1,hc2,_⟩:=HM.out.st.form;subst hsv;have k24:wr.cell? ⟨E.b,24,none⟩=some (.slice p1 S1.sp c1):=HM.out.at 24 _ rfl;have hbb:Below wr.heap.size wr ((wr.alloc (.cells #[.int .u16 0,.int .u16 0,.int .u16 0,.int .u16 0,.int .u16 0,.int .u16 0,.int .u16 0,.int .u16 0,.int .u16 0,.int .u16 0,.int .u16 0,.int .u16 0,.int .i64 0,.int .i64 0,.int .i64 0,.int .i64 0] 36)).setRow wr.heap.size (stQ E S1).toArray):=below_setRow ((Below.refl _ wr).alloc (Nat.le_refl _) _) (Nat.le_refl _) _;have HZ:=Nc (heap_alloc_new wr (.cells #[.int .u16 0,.int .u16 0,.int .u16 0,.int .u16 0,.int .u16 0,.int .u16 0,.int .u16 0,.int .u16 0,.int .u16 0,.int .u16 0,.int .u16 0,.int .u16 0,.int .i64 0,.int .i64 0,.int .i64 0,.int .i64 0] 36));have HB:=Nc (setRow_heap _ _ _ (stQ E S1).toArray _ _ HZ.out);have HM1:=Nc (HM.out.kept hbb);have HRb1:=Nc (show Rb N _ from⟨af HRb.out.a hbb,af HRb.out.b hbb⟩);have HS:=Nc (rY HM1.out (by have h:=HL.out;have h2:=HR.out.2;unfold iK;omega));have HRun:=Nc (show R=match eQ E.I E.T S1 with | .ok S'=>eP E.I E.T (most-(k+1)) S' | .tr k i=>(S1,k,i) from by
   rw[← HR.out.1,show most-k=(most-(k+1))+1 by omega];rfl)
  rw[hRs] at HS hrok HRun;clear hbb hRg hRs hc2;go_upto_region 5 with(first
   | refine wpList_load_mid rfl 36 _ rfl E.b 7 rfl (stQ E S1) _ HRg.out Tryz.underlying36 rfl iP ?_
   | refine wpList_store_row rfl 36 _ _ rfl wr.heap.size (stQ E S1).toArray rfl rfl 36 _ HZ.out iP (by rfl) (by simp[stQ,Value.oneCell']) ?_)
  obtain⟨W1,hW1⟩:∃ W,(wr.alloc (.cells #[.int .u16 0,.int .u16 0,.int .u16 0,.int .u16 0,.int .u16 0,.int .u16 0,.int .u16 0,.int .u16 0,.int .u16 0,.int .u16 0,.int .u16 0,.int .u16 0,.int .i64 0,.int .i64 0,.int .i64 0,.int .i64 0] 36)).setRow wr.heap.size (stQ E S1).toArray=W:=⟨_,rfl⟩;rw[hW1] at HB HM1 HRb1 HS;rw[hW1];obtain⟨B,hB⟩:∃ n,wr.heap.size=n:=⟨_,rfl⟩;rw[hB] at HB;rw[hB];clear hW1 hB HZ HRg HM HRb k24;have k24:W1.cell? ⟨E.b,24,none⟩=some (.slice p1 S1.sp c1):=HM1.out.at 24 _ rfl;have HMs:=Nc HM1.out.ok;cases Rs with
  | ok S2=>
   have hlen:=hrok.out S2 rfl;go_wp2_with fail
   refine HS.out.mono ?_;rintro e w2 ⟨rfl,sv2,ov2,hm2,hf2⟩;have c26:=hm2.at 26 (.int .i64 0) rfl;have HM2:=Nc (hm2.dep S2.sp (.inl (Nat.le_refl _)));have HRb2:=Nc (HRb1.out.keep hf2 HM1.out);have HR2:=Nc (show eP E.I E.T (most-(k+1)) S2=R∧S2.out.length≤S.out.length+(k+1) from⟨HRun.out.symm,by have:=HR.out.2;omega⟩);clear hm2 hf2 hrok hlen k24;go_wp2_with fail
   go_roundw
   case rel=>exact⟨k+1,S2,sv2,ov2,h8,by go_num,HR2,HM2,HRb2⟩
   case measure=>simp[intOf];omega
  | tr t x=>
   have ht:=(hrok.tr t x rfl).1;have htb:(t != 0)=true:=by simp;omega
   have HRe:=Nc (show R=(S1,t,x) from HRun.out);clear hrok ht;go_wp2_with fail
   refine HS.out.mono ?_;rintro e w2 ⟨rfl,sv2,ov2,S2,hm2,hk2,hf2⟩;have c26:=hm2.at 26 (.int .i64 t) rfl;have HB2:=Nc (hf2.keep HM1.out HB.out);have HRb2:=Nc (HRb1.out.keep hf2 HM1.out);obtain⟨p2,n2,hsv⟩:∃ p n c,sv2= .slice p n c:=by obtain⟨p,c,h,_⟩:=hm2.st.form;exact⟨p,_,c,h⟩
   obtain⟨c2,rfl⟩:=hsv;obtain⟨hc2,hmb⟩:=hm2.Lj hk2 HMs.out;have HMb:=Nc hmb;have HMa:=Nc (hm2.back HMs.out);have HTh:=Nc hm2.EN;have HRw:=Nc (show w2.rangeAt B 0 (stQ E S1) from aH HB2.out _ (fun j v hv=>by rw[← hv];simp));have hc2i:(S1.sp:Int)≤(c2:Int):=by omega
   have hsp0:(0:Int)≤(S1.sp:Int):=by omega
   clear hm2 hk2 hf2 k24 hmb;go_upto_region 9 with(first
    | refine wpList_load_mid rfl 36 _ rfl B 0 rfl (stQ E S1) _ HRw.out Tryz.underlying36 rfl iP ?_
    | refine wpList_store_mid rfl 36 _ _ rfl E.b 7 (stQ E S1).toArray rfl rfl HTh.out iP (by simp[stQ,Value.oneCell']) ?_)
   obtain⟨W3,hW3⟩:∃ W,w2.setCells E.b 7 (stQ E S1)=W:=⟨_,rfl⟩;have hrb3:=HRb2.out.of (w':=W3) (fun g hg=>by rw[← hW3];exact zC (by have:=HEbN.out;omega) _ _ _);have HRb3:=Nc hrb3;rw[hW3] at HMa HMb;have e3:w2.setCells E.b 7 (stQ E S1).toArray.toList=W3:=hW3;first | rw[e3] | rw[hW3]
   clear e3 hW3 hrb3 HRb2 HB2 HTh HRw c26;have k24:W3.cell? ⟨E.b,24,none⟩=some (.slice p2 n2 c2):=HMa.out.at 24 _ rfl;have r24:=HMa.out.frz 24;have HRb4:=Nc (HRb3.out.of (w':=W3.setCell ⟨E.b,24,none⟩ (.slice p2 S1.sp c2)) (fun g hg=>dn W3 ⟨E.b,24,none⟩ _ g (by have:=HEbN.out;simp only;omega)));clear HRb3 HMa
   try simp only[Act.put]
   go_cut [41] from 35 to 43 (fun v wx=>Hid (Mq E (.slice p2 S1.sp c2) ov2 S1 S1.sp t x wx)∧Hid (Rb N wx))
   case first=>
    have hnn:p2=none→c2=0:=fun e=>by
     subst e;rcases HMb.out.st with⟨a,_⟩|⟨g,c,A,hv,_⟩
     ·simp only[Value.slice.injEq] at a;exact a.2.2
     ·simp at hv
    rcases p2 with _|⟨b2,o2,f2⟩
    ·obtain rfl:=hnn rfl
     have e0:(Value.slice none 0 0:Value)= .slice none S1.sp 0:=by rw[show S1.sp=0 by omega]
     go_wp2_with fail
     go_meet
     exact⟨HMb,HRb4⟩
    ·go_wp2_with fail
     go_meet
     exact⟨HMb,HRb4⟩
   case rest=>
   obtain⟨HM4,HR4⟩:=hcut;obtain⟨W4,hW4⟩:∃ x,x=wc:=⟨_,rfl⟩;subst hW4;have HM5:=Nc HM4.out.drew;have HR5:=Nc (show Rb N W4.drew from⟨af HR4.out.a (Below.refl _ _).drew,af HR4.out.b (Below.refl _ _).drew⟩);have HSn:=Nc (tZ E _ ov2 S1 _ t x W4.drew HM5.out (by have h:=HL.out;have h2:=HR.out.2;omega));have HTc:=Nc (And.intro (HM5.out.at 26 (.int .i64 t) rfl) (HM5.out.at 27 (.int .u16 x) rfl));clear HMb HRb4 k24 r24 hc2i hsp0 hc2;go_wp2_with fail
   refine wp_region_held_drew (S:=fun U=>U.cell? ⟨E.b,26,none⟩=some (.int .i64 t)∧U.cell? ⟨E.b,27,none⟩=some (.int .u16 x)) (by kernel_rfl) HTc.out (fun hHeld=>?_);refine tq 0 rfl ?_;refine tq 2 rfl ?_;refine tq 3 rfl ?_;refine tq 4 rfl ?_;refine tk 5 _ rfl (yieldsIf_load_mid (by rfl) 47 _ rfl E.b 26 rfl [.int .i64 t,.int .u16 x] _ (fun w hw j v hv=>by
    match j,hv with
    | 0,hv=>simp at hv;subst hv;exact hw.1
    | 1,hv=>simp at hv;subst hv;exact hw.2
    | j+2,hv=>simp at hv) Tryz.underlying47 rfl dV) ?_
   refine rd1 1 rfl (fun K hK=>?_);clear hHeld;go_simp;go_at_call 38;with_reducible refine HSn.out.mono ?_
   rintro e w5 ⟨⟨p6,c6,q6,d6,rfl,hs6,hf6,hg6,hcp⟩,hb5,⟨q5,hbk5⟩,hkp5⟩;have HTc5:=Nc (And.intro (ae hbk5 26 (.int .i64 t) rfl) (ae hbk5 27 (.int .u16 x) rfl));have HR6:=Nc (HR5.out.of (fun g hg=>hkp5 g (by have:=HR5.out.hi;omega) (by have:=HEbN.out;omega)));have he:=BM (i:=x) (k:=t) (c:=c6) (d:=d6) HR6.out hs6 hf6 hg6 HR5.out.hi hb5 HLo.out;have HE:=Nc he;have HFr:=Nc (And.intro (show From N p6 from fun g hg=>Nat.le_trans (by have:=HR5.out.hi;omega) (hf6 g hg)) (And.intro (show From N q6 from fun g hg=>Nat.le_trans (by have:=HR5.out.hi;omega) (hg6 g hg)) hcp));have HX1:=Nc (show(w5.setRow N (snA (au S1) p6 c6 q6 d6)).cell? ⟨E.b,26,none⟩=some (.int .i64 t)∧(w5.setRow N (snA (au S1) p6 c6 q6 d6)).cell? ⟨E.b,27,none⟩=some (.int .u16 x) from⟨(cell_setRow_other _ _ _ _ (show E.b≠N by have:=HEbN.out;omega)).trans HTc5.out.1,(cell_setRow_other _ _ _ _ (show E.b≠N by have:=HEbN.out;omega)).trans HTc5.out.2⟩);have HX2:=Nc (show((w5.setRow N (snA (au S1) p6 c6 q6 d6)).setRow (N+1) #[.int .i64 t,.int .u16 x]).cell? ⟨E.b,26,none⟩=some (.int .i64 t)∧((w5.setRow N (snA (au S1) p6 c6 q6 d6)).setRow (N+1) #[.int .i64 t,.int .u16 x]).cell? ⟨E.b,27,none⟩=some (.int .u16 x) from⟨(cell_setRow_other _ _ _ _ (show E.b≠N+1 by have:=HEbN.out;omega)).trans HX1.out.1,(cell_setRow_other _ _ _ _ (show E.b≠N+1 by have:=HEbN.out;omega)).trans HX1.out.2⟩);clear hs6 hf6 hg6 hcp hb5 hbk5 hkp5 he;go_wp2_with fail
   refine hK.out _ _ HTc5.out (fun hHeld=>?_);clear hK K
   try simp only[lay]
   unfold snV;refine rd1 6 rfl (fun K hK=>?_);refine Eq.mpr (if_pos (by rfl)) ?_;refine wp_store_row 40 _ _ rfl N (snA (au S1) p6 c6 q6 d6) rfl rfl 40 _ HR6.out.a aU (by rfl) (by simp[snA,Value.oneCell']) ?_;refine hK.out _ _ HX1.out (fun hHeld=>?_);clear hK K
   try simp only[lay]
   refine rd1 7 rfl (fun K hK=>?_);refine Eq.mpr (if_pos (by rfl)) ?_;refine wp_store_row 47 _ _ rfl (N+1) #[.int .i64 t,.int .u16 x] rfl rfl 47 _ HE.out.1 dV (by rfl) (by simp[Value.oneCell']) ?_;refine hK.out _ _ HX2.out (fun hHeld=>?_);clear hK K
   try simp only[lay]
   refine wpAnyH_done (by kernel_rfl) ?_ _;clear hHeld;go_wp2_with fail
   refine bodyPost_ret (v:= .tuple #[.agg (snA (au S1) p6 c6 q6 d6),.agg #[.int .i64 t,.int .u16 x]]) (fF rfl _ _ N (N+1) 40 47 _ _ (0,0) (0,0) rfl rfl HE.out.2.1 HE.out.2.2.1 Tryz.underlying40 aU Tryz.underlying47 dV) rfl ?_;rw[HNe.out,HRe.out];exact⟨⟨p6,c6,q6,d6,rfl,HE.out.2.2.2.1,HFr.out.1,HFr.out.2.1,HFr.out.2.2⟩,HE.out.2.2.2.2⟩
 have h8':¬ (k:Int) < most:=by omega
 obtain rfl:k=most:=by omega
 have HRe:=Nc (show R=(S1,7,0) from by rw[← HR.out.1,Nat.sub_self];rfl);have HSn:=Nc (tZ E _ ov1 S1 _ 0 0 wr HM.out (by have h:=HL.out;have h2:=HR.out.2;omega));go_wp2_with fail
 refine HSn.out.mono ?_;rintro e w5 ⟨⟨p6,c6,q6,d6,rfl,hs6,hf6,hg6,hcp⟩,hb5,_,hkp5⟩;have HR6:=Nc (HRb.out.of (fun g hg=>hkp5 g (by have:=HRb.out.hi;omega) (by have:=HEbN.out;omega)));have he:=BM (i:=0) (k:=7) (c:=c6) (d:=d6) HR6.out hs6 hf6 hg6 HRb.out.hi hb5 HLo.out;have HE:=Nc he;have HFr:=Nc (And.intro (show From N p6 from fun g hg=>Nat.le_trans (by have:=HRb.out.hi;omega) (hf6 g hg)) (And.intro (show From N q6 from fun g hg=>Nat.le_trans (by have:=HRb.out.hi;omega) (hg6 g hg)) hcp));clear hs6 hf6 hg6 hcp hb5 hkp5 he;unfold snV;go_wp2_with (first
  | refine wpList_store_row rfl 40 _ _ rfl N (snA (au S1) p6 c6 q6 d6) rfl rfl 40 _ HR6.out.a aU (by rfl) (by simp[snA,Value.oneCell']) ?_
  | refine wpList_store_row rfl 47 _ _ rfl (N+1) #[.int .i64 7,.int .u16 0] rfl rfl 47 _ HE.out.1 dV (by rfl) (by simp[Value.oneCell']) ?_)
 refine bodyPost_ret (v:= .tuple #[.agg (snA (au S1) p6 c6 q6 d6),.agg #[.int .i64 7,.int .u16 0]]) (fF rfl _ _ N (N+1) 40 47 _ _ (0,0) (0,0) rfl rfl HE.out.2.1 HE.out.2.2.1 Tryz.underlying40 aU Tryz.underlying47 dV) rfl ?_;rw[HNe.out,HRe.out];exact⟨⟨p6,c6,q6,d6,rfl,HE.out.2.2.2.1,HFr.out.1,HFr.out.2.1,HFr.out.2.2⟩,HE.out.2.2.2.2⟩
set_option maxHeartbeats 8000000 in
theorem BF(P:Pl)(I:Im)(T:Tp)(pi pq:Option Addr)(ci cq:Nat)(X:Sn)(p q:Option Addr)(c d:Nat)(most:Nat)(w:World)(hI:I.Ok)(hT:T.Ok)(hX:X.Ok)(hp:Has w P I)(h1:Slo w pi (inC T.inn))(h2:Slo w pq (irC T.irq))(h3:SnH w X p q)(hc:X.stk.length≤c)(hm:most≤1000000)(hl:X.out.length+most≤1000000000):
 Calls Tryz.prog 15 #[.agg #[.slice P.p0 I.banks.length P.c0,.int .u16 I.en,.int .u16 I.ve,.slice P.p1 I.data.length P.c1,.slice P.p2 I.rel.length P.c2],.agg #[.slice pi T.inn.length ci,.slice pq T.irq.length cq],.agg #[.int .u16 (X.r 0),.int .u16 (X.r 1),.int .u16 (X.r 2),.int .u16 (X.r 3),.int .u16 (X.r 4),.int .u16 (X.r 5),.int .u16 (X.r 6),.int .u16 (X.r 7),.int .u16 X.pc,.int .u16 X.sp,.int .u16 X.fp,.int .u16 X.f,.int .i64 X.aF,.int .i64 X.steps,.int .i64 X.inp,.int .i64 X.pol,.string X.ram,.slice p X.stk.length c,.slice q X.out.length d],.int .i64 most] w fun e w'=>kK w.heap.size (au (eP I T most (aQ X)).1) (eP I T most (aQ X)).2.1 (eP I T most (aQ X)).2.2 e w'∧Below w.heap.size w w':=by
 have HBx0:=Nc (GM w #[.slice P.p0 I.banks.length P.c0,.int .u16 I.en,.int .u16 I.ve,.slice P.p1 I.data.length P.c1,.slice P.p2 I.rel.length P.c2] #[.slice pi T.inn.length ci,.slice pq T.irq.length cq] #[.int .u16 (X.r 0),.int .u16 (X.r 1),.int .u16 (X.r 2),.int .u16 (X.r 3),.int .u16 (X.r 4),.int .u16 (X.r 5),.int .u16 (X.r 6),.int .u16 (X.r 7),.int .u16 X.pc,.int .u16 X.sp,.int .u16 X.fp,.int .u16 X.f,.int .i64 X.aF,.int .i64 X.steps,.int .i64 X.inp,.int .i64 X.pol,.string X.ram,.slice p X.stk.length c,.slice q X.out.length d] #[.int .u16 0,.int .u16 0,.int .u16 0,.int .u16 0,.int .u16 0,.int .u16 0,.int .u16 0,.int .u16 0,.int .u16 0,.int .u16 0,.int .u16 0,.int .u16 0,.int .i64 0,.int .i64 0,.int .i64 0,.int .i64 0,.string ⟨#[]⟩,.slice none 0 0,.slice none 0 0] #[.int .i64 0,.int .u16 0]);have HLd:=Nc (fun V (hb:Below w.heap.size w V)=>ut P I T pi pq ci cq X p q c d V hI hT hX (hp.below hb) (h1.below hb) (h2.below hb) (h3.below hb) hc (by omega));have HLen:=Nc hl;have HM:=Nc hm;clear hI hT hX hp h1 h2 h3 hc hl;go_enter Tryz.func15,Tryz.ntmps15
 go_upto_region 1 with fail
 have HBox:=HBx0;obtain⟨W0,hW0⟩:∃ W0,(((((w.alloc (.cells #[.slice P.p0 I.banks.length P.c0,.int .u16 I.en,.int .u16 I.ve,.slice P.p1 I.data.length P.c1,.slice P.p2 I.rel.length P.c2] 33)).alloc (.cells #[.slice pi T.inn.length ci,.slice pq T.irq.length cq] 43)).alloc (.cells #[.int .u16 (X.r 0),.int .u16 (X.r 1),.int .u16 (X.r 2),.int .u16 (X.r 3),.int .u16 (X.r 4),.int .u16 (X.r 5),.int .u16 (X.r 6),.int .u16 (X.r 7),.int .u16 X.pc,.int .u16 X.sp,.int .u16 X.fp,.int .u16 X.f,.int .i64 X.aF,.int .i64 X.steps,.int .i64 X.inp,.int .i64 X.pol,.string X.ram,.slice p X.stk.length c,.slice q X.out.length d] 40)).alloc (.cells #[.int .u16 0,.int .u16 0,.int .u16 0,.int .u16 0,.int .u16 0,.int .u16 0,.int .u16 0,.int .u16 0,.int .u16 0,.int .u16 0,.int .u16 0,.int .u16 0,.int .i64 0,.int .i64 0,.int .i64 0,.int .i64 0,.string ⟨#[]⟩,.slice none 0 0,.slice none 0 0] 40)).alloc (.cells #[.int .i64 0,.int .u16 0] 47))=W0:=⟨_,rfl⟩;rw[hW0] at HBox;rw[hW0];clear hW0 HBx0;have HR:=Nc (And.intro (show W0.rangeAt w.heap.size 0 (imL P I) from aH HBox.out.h0 _ (fun j v hv=>by rw[← hv];simp[imL])) (And.intro (show W0.rangeAt (w.heap.size+1) 0 (tpL T pi ci pq cq) from aH HBox.out.h1 _ (fun j v hv=>by rw[← hv];simp[tpL])) (show W0.rangeAt (w.heap.size+2) 0 (snL X p c q d) from aH HBox.out.h2 _ (fun j v hv=>by rw[← hv];simp[snL]))));have HBel:=Nc HBox.out.bel;go_wp2_with (first
  | refine wpList_load_mid rfl 33 _ rfl w.heap.size 0 rfl (imL P I) _ HR.out.1 Tryz.underlying33 rfl dP ?_
  | refine wpList_load_mid rfl 43 _ rfl (w.heap.size+1) 0 rfl (tpL T pi ci pq cq) _ HR.out.2.1 Tryz.underlying43 rfl iy ?_
  | refine wpList_load_mid rfl 40 _ rfl (w.heap.size+2) 0 rfl (snL X p c q d) _ HR.out.2.2 Tryz.underlying40 rfl aU ?_)
 refine(HLd.out _ HBel.out).mono ?_;rintro e w1 ⟨E,sv,ov,rfl,hE0,hEP,hEI,hEpi,hEci,hEpq,hEcq,hET,hEq,hm1⟩;have HS:=Nc (BX most (hm1.dep (aQ X).sp (.inl (Nat.le_refl _))) HM.out (by have h:=HLen.out;exact h));rw[hEI,hET] at HS;obtain⟨⟨SR,kR,iR⟩,hR⟩:∃ R,eP I T most (aQ X)=R:=⟨_,rfl⟩;rw[hR] at HS;have HRq:=Nc hR;have HE0:=Nc hE0;have HBE:=Nc (show W0.heap.size≤w1.heap.size from(hE0▸hm1.bel).size);clear hE0 hEP hEI hEpi hEci hEpq hEcq hET hEq hm1 hR;go_wp2_with fail
 refine HS.out.mono ?_;rintro e w3 ⟨⟨p1,c1,q1,d1,rfl,hs1,hf1,hf2,hcp⟩,hb3⟩;have HN0:=Nc (show W0.heap.size≤w1.heap.size from HBE.out);have HCap:=Nc hcp;have HB3:=Nc (show Below W0.heap.size W0 w3 from HE0.out▸hb3);have HS3:=Nc hs1;have HF3:=Nc (And.intro hf1 hf2);obtain⟨N0,hN0⟩:∃ N0,w1.heap.size=N0:=⟨_,rfl⟩;rw[hN0] at HN0 HF3;clear hs1 hf1 hf2 hb3 hcp hN0;have n3:=HBox.out.size;have g3:=af HBox.out.h3 HB3.out;have g4:=af HBox.out.h4 HB3.out;have f3:=setRow_heap w3 (w.heap.size+3) _ (snA (au SR) p1 c1 q1 d1) 40 (0,0) g3;have f4:(w3.setRow (w.heap.size+3) (snA (au SR) p1 c1 q1 d1)).heap[w.heap.size+4]? =_:=(setRow_other w3 (w.heap.size+3) _ _ (by omega)).trans g4;have f5:=setRow_heap _ (w.heap.size+4) _ #[.int .i64 kR,.int .u16 iR] 47 (0,0) f4;have f6:((w3.setRow (w.heap.size+3) (snA (au SR) p1 c1 q1 d1)).setRow (w.heap.size+4) #[.int .i64 kR,.int .u16 iR]).heap[w.heap.size+3]? =_:=(setRow_other _ (w.heap.size+4) _ _ (by omega)).trans f3;have hs6:=HS3.out.set2 (N:=N0) HF3.out.1 HF3.out.2 (a:=w.heap.size+3) (b:=w.heap.size+4) (by have:=HN0.out;omega) (by have:=HN0.out;omega) (snA (au SR) p1 c1 q1 d1) #[.int .i64 kR,.int .u16 iR];have hb6:Below w.heap.size w ((w3.setRow (w.heap.size+3) (snA (au SR) p1 c1 q1 d1)).setRow (w.heap.size+4) #[.int .i64 kR,.int .u16 iR]):=below_setRow (below_setRow (HBel.out.trans (HB3.out.mono HBel.out.size)) (by omega) _) (by omega) _;have HFin:=Nc (And.intro hs6 (And.intro hb6 (And.intro f5 f6)));have HF2:=Nc (And.intro (show From w.heap.size p1 from fun g hg=>Nat.le_trans (Nat.le_trans HBel.out.size HN0.out) (HF3.out.1 g hg)) (show From w.heap.size q1 from fun g hg=>Nat.le_trans (Nat.le_trans HBel.out.size HN0.out) (HF3.out.2 g hg)));have HG3:=Nc (And.intro g3 f4);clear f3 f4 f5 f6 hs6 hb6 g3 g4 n3;unfold snV iL;go_wp2_with (first
  | refine wpList_store_row rfl 40 _ _ rfl (w.heap.size+3) (snA (au SR) p1 c1 q1 d1) rfl rfl 40 _ HG3.out.1 aU (by rfl) (by simp[snA,Value.oneCell']) ?_
  | refine wpList_store_row rfl 47 _ _ rfl (w.heap.size+4) #[.int .i64 kR,.int .u16 iR] rfl rfl 47 _ HG3.out.2 dV (by rfl) (by simp[Value.oneCell']) ?_)
 refine bodyPost_ret (v:= .tuple #[.agg (snA (au SR) p1 c1 q1 d1),.agg #[.int .i64 kR,.int .u16 iR]]) (fF rfl _ _ (w.heap.size+3) (w.heap.size+4) 40 47 _ _ (0,0) (0,0) rfl rfl HFin.out.2.2.2 HFin.out.2.2.1 Tryz.underlying40 aU Tryz.underlying47 dV) rfl ?_;rw[HRq.out];exact⟨⟨p1,c1,q1,d1,rfl,HFin.out.1,HF2.out.1,HF2.out.2,HCap.out⟩,HFin.out.2.1⟩
end Go.Proofs.YthkcloapiefggaaGreatDoor
