import Derived.Test.YthkcloapiefggaaGreatDoorQRqw
import Derived.Test.YthkcloapiefggaaGreatDoorQSmr
import Derived.Test.YthkcloapiefggaaGreatDoorQSan
import Derived.Test.YthkcloapiefggaaGreatDoorQXbx
namespace Go.Proofs.YthkcloapiefggaaGreatDoor.cpuRuns
set_option linter.unusedVariables false
set_option linter.unusedSimpArgs false
set_option maxRecDepth 100000
set_option maxHeartbeats 1000000
open Go.ChangeShapes Go.WideShapes Go.RowKit
theorem gp{P:Program}{ops:Array Oper}{rest:List Oper}{op:Oper}{a:Act}{w:World}{Q:Exit→Act→World→Prop}(hw:Region.wanted op (yielded ops a.tmps)=true)(ty:TypeId)(x:Operand)(ho:op.op= .load ty x)
  (b o:Nat) (hx:a.eval x= .pointer (some ⟨b,o,none⟩)) (cs:List Value) (d:TypeDesc) (hc:w.rangeAt b o cs)
  (hu:P.underlying ty=some d) (hd:d.isRow=true) (hi:(P.info? ty).map (·.size)=some cs.length)
  (h:wpList P ops Q rest (a.put op.dst (.agg cs.toArray)) w):wpList P ops Q (op::rest) a w:=
 wpList_step fun K hK=>by rw[if_pos hw];exact wp_load_mid ty x ho b o hx cs d hc hu hd hi (hK _ _ h)
theorem runP_len(I:Im)(T:Tp):∀ (n:Nat) (S:Ms),(eP I T n S).1.out.length≤S.out.length+n
 | 0,S=>Nat.le_refl _
 | n+1,S=>by
  cases hs:eQ I T S with
  | ok S'=>
   rw[yx n hs];have:=runP_len I T n S';have:=(jl I T S).out S' hs;omega
  | tr k i=>rw[yw n hs];show S.out.length≤_;omega
set_option maxHeartbeats 20000000 in
theorem walk(p:Option Addr)(n c:Nat)(n0 n1 n2 n3:Int)(pt:Option Addr)(nt ct:Nat)(a0:Int)(w:World)(hR:Rw5 w p n)(hn:n≤9223372036854775807)(hc:n≤c)(hT:Ri w pt nt)(hnt:nt≤9223372036854775807)(h0:0≤a0∧a0 < 256)(ht:iq w)
  (hsan:∀ W,iq W→Calls Tryz.prog 12 #[] W fun e w'=>e= .returned (.bool true)∧Below W.heap.size W w'):
  Calls Tryz.prog 3 #[.agg #[.slice p n c,.int .i64 n0,.int .i64 n1,.int .i64 n2,.int .i64 n3,.slice pt nt ct],.int .u8 a0] w fun e w'=>e= .returned (.bool true)∧Below w.heap.size w w':=by
 obtain⟨m0,rfl⟩:∃ m:Nat,a0=m:=⟨a0.toNat,by omega⟩;have HPos:Hid (0 < w.heap.size):=Nc (by obtain⟨_,_,h⟩:=ht;exact lt_of_block h);have HTab:=Nc ht;have HSan:=Nc hsan;have HSu:=Nc (fun W (hb:Below w.heap.size w W)=>rP p n c n0 n1 n2 n3 pt nt ct W (fun i hi=>hR.below hb i hi) hn hc (fun i hi=>by obtain⟨g,o,x,e,hx⟩:=hT i hi;exact⟨g,o,x,e,fun V hV=>hx V (hb.trans (hV.mono hb.size))⟩) hnt);have hm0:(m0:Int) < 256:=h0.2;clear ht hsan hR hn hc hT hnt h0;go_enter Tryz.func3,Tryz.ntmps3
 go_wp2_with fail
 refine(HSan.out _ (bF HPos.out HTab.out ((Below.refl _ _).alloc (Nat.le_refl _) _))).mono ?_;rintro e w1 ⟨rfl,hb1⟩;have B0:=(Below.refl _ w).alloc (Nat.le_refl _) (.cells #[.slice p n c,.int .i64 n0,.int .i64 n1,.int .i64 n2,.int .i64 n3,.slice pt nt ct] 26);have B1:=B0.trans (hb1.mono B0.size);have x0:=af (heap_alloc_new w (.cells #[.slice p n c,.int .i64 n0,.int .i64 n1,.int .i64 n2,.int .i64 n3,.slice pt nt ct] 26)) hb1;have HX0:=Nc (aH x0 [.slice p n c,.int .i64 n0,.int .i64 n1,.int .i64 n2,.int .i64 n3,.slice pt nt ct] (fun j v hv=>by rw[← hv];simp));have HB1:=Nc B1;have hT1:=bF HPos.out HTab.out B1;have HT1:=Nc hT1;clear hb1 B0 B1 x0 hT1 HSan;obtain⟨ga,hga⟩:∃ g,w.heap.size=g:=⟨_,rfl⟩;rw[hga] at HX0 HB1 HPos HSu;rw[hga];have HGa:=Nc hga;clear hga;go_upto_region 2 with fail
 try simp only[Act.put]
 go_cut [6,7,8] from 15 to 20 (fun u v x wx=>∃ g P I X pX cX T pi pq ci cq,u= .pointer (some ⟨g,0,none⟩)∧v= .pointer (some ⟨g+1,0,none⟩)∧x= .pointer (some ⟨g+1+1,0,none⟩)∧Hid (St3 g P I X pX cX T pi pq ci cq wx)∧Hid (Below ga w wx)∧Hid (X.stk.length≤cX))
 case first=>
  go_wp2_with (refine wpList_load_mid rfl 26 _ rfl ga 0 rfl [.slice p n c,.int .i64 n0,.int .i64 n1,.int .i64 n2,.int .i64 n3,.slice pt nt ct] _ HX0.out Tryz.underlying26 rfl wo ?_)
  refine(HSu.out _ HB1.out).mono ?_;rintro e w2 ⟨⟨P,I,X,pX,cX,T,pi,pq,ci,cq,rfl,i1,i2,i3,i4,i5,i6,i7,i8,i9,i10,i11⟩,hb2⟩;have hB:=bx3 w2 #[.slice none 0 0,.int .u16 0,.int .u16 0,.slice none 0 0,.slice none 0 0] zS #[.slice none 0 0,.slice none 0 0] (imR P I) (snA X pX cX none 0) #[.slice pi T.inn.length ci,.slice pq T.irq.length cq] 33 40 43;have B2:=HB1.out.trans (hb2.mono (by have:=HGa.out;have:=HB1.out.size;omega));have B3:=B2.trans (hB.bel.mono (by have:=HGa.out;have:=B2.size;omega));have HS3:=Nc (show St3 w2.heap.size P I X pX cX T pi pq ci cq _ from⟨hB.a1,hB.a2,hB.a3,i1,i2,i9,i3.below hB.bel,i4.below hB.bel,(i10.slo).below hB.bel,(i11.slo).below hB.bel,bF HPos.out HTab.out B3,i7⟩);have HBx:=Nc (And.intro hB.z1 (And.intro hB.z2 hB.z3));have HB3:=Nc B3;have HM3:=Nc i6;clear i1 i2 i3 i4 i5 i6 i7 i8 i9 i10 i11 hb2 hB B2 B3;unfold imV snV;go_wp2_with (first
   | refine wpList_store_row rfl 33 _ _ rfl w2.heap.size (imR P I) rfl rfl 33 _ HBx.out.1 dP (by rfl) (by simp[imR,Value.oneCell']) ?_
   | refine wpList_store_row rfl 40 _ _ rfl (w2.heap.size+1) (snA X pX cX none 0) rfl rfl 40 _ HBx.out.2.1 aU (by rfl) (by simp[snA,Value.oneCell']) ?_
   | refine wpList_store_row rfl 43 _ _ rfl (w2.heap.size+1+1) #[.slice pi T.inn.length ci,.slice pq T.irq.length cq] rfl rfl 43 _ HBx.out.2.2 iy (by rfl) (by simp[Value.oneCell']) ?_)
  go_meet
  exact⟨_,P,I,X,pX,cX,T,pi,pq,ci,cq,rfl,rfl,rfl,HS3,HB3,HM3⟩
 case rest=>
 obtain⟨g,P,I,X,pX,cX,T,pi,pq,ci,cq,rfl,rfl,rfl,HSt,HB3,HMx⟩:=hcut;obtain⟨W3,hW3⟩:∃ x,x=wc:=⟨_,rfl⟩;subst hW3;clear HX0 HSu HB1 HT1;obtain⟨R,hR⟩:∃ R,eP I T m0 (aQ X)=R:=⟨_,rfl⟩;have hlen:=runP_len I T m0 (aQ X);rw[hR] at hlen;obtain⟨S9,k9,i9⟩:=R;have hxo:(aQ X).out.length=0:=by show X.out.length=0;rw[HSt.out.xout];rfl
 have HLen:=Nc (show(au S9).out.length≤1000 by show S9.out.length≤1000;dsimp only at hlen;omega);have HlX:=Nc (show X.out.length≤1000 by rw[HSt.out.xout];decide);have HRR:=Nc hR;clear hR hlen hxo;go_upto_region 3 with fail
 go_cut [9,10] from 21 to 28 (fun u v wx=>∃ B p c q d,u= .pointer (some ⟨B,0,none⟩)∧v= .pointer (some ⟨B+1,0,none⟩)∧Hid (OkE S9∧(au S9).stk.length≤c)∧Hid (fZ W3 (au S9) k9 i9 B (B+1) p c q d wx)∧Hid (Below W3.heap.size W3 wx))
 case first=>
  have hb0:Below W3.heap.size W3 W3:=Below.refl _ _;have hst:=HSt.out.next hb0;have ri:=aH hst.bi [.slice P.p0 I.banks.length P.c0,.int .u16 I.en,.int .u16 I.ve,.slice P.p1 I.data.length P.c1,.slice P.p2 I.rel.length P.c2] (fun j v hv=>by rw[← hv];simp[imR]);have rt:=aH hst.bt [.slice pi T.inn.length ci,.slice pq T.irq.length cq] (fun j v hv=>by rw[← hv];simp);have rs:=aH hst.bs (snL X pX cX none 0) (fun j v hv=>by rw[← hv];simp[snL,snA]);have HRun:=Nc (hst.run X pX none cX 0 m0 HSt.out.xok hst.sn (by omega) (by have:=HlX.out;omega) HRR.out);have HRg:=Nc (And.intro ri (And.intro rt rs));have HB0:=Nc hb0;clear hb0 hst ri rt rs;go_wp2_with (first
   | refine wpList_load_mid rfl 33 _ rfl g 0 rfl [.slice P.p0 I.banks.length P.c0,.int .u16 I.en,.int .u16 I.ve,.slice P.p1 I.data.length P.c1,.slice P.p2 I.rel.length P.c2] _ HRg.out.1 Tryz.underlying33 rfl dP ?_
   | refine wpList_load_mid rfl 43 _ rfl (g+1+1) 0 rfl [.slice pi T.inn.length ci,.slice pq T.irq.length cq] _ HRg.out.2.1 Tryz.underlying43 rfl iy ?_
   | refine wpList_load_mid rfl 40 _ rfl (g+1) 0 rfl (snL X pX cX none 0) _ HRg.out.2.2 Tryz.underlying40 rfl aU ?_)
  refine HRun.out.mono ?_;rintro e w9 ⟨⟨⟨p9,c9,q9,d9,rfl,hs9,_,_,hcap⟩,hok⟩,hb9⟩;have HOk:=Nc (And.intro hok hcap);have HZ:=Nc (Fg w9 (au S9) 0 0 c9 d9 p9 q9 zS);have HBR:=Nc (fZ.new (k:=k9) (i:=i9) (c:=c9) (d:=d9) (HB0.out.trans (hb9.mono HB0.out.size)) hs9 zS (.int .i64 0) (.int .u16 0));have HBq:=Nc (fZ.new (k:=k9) (i:=i9) (c:=c9) (d:=d9) hb9 hs9 zS (.int .i64 0) (.int .u16 0)).bel;clear hs9 hb9 hok hcap;unfold iL;go_wp2_with (first
   | refine wpList_store_row rfl 40 _ _ rfl w9.heap.size (snA (au S9) p9 c9 q9 d9) rfl rfl 40 _ HZ.out.1 aU (by rfl) (by simp[snA,Value.oneCell']) ?_
   | refine wpList_store_row rfl 47 _ _ rfl (w9.heap.size+1) #[.int .i64 k9,.int .u16 i9] rfl rfl 47 _ HZ.out.2 dV (by rfl) (by simp[Value.oneCell']) ?_)
  go_meet
  exact⟨_,_,_,_,_,rfl,rfl,HOk,HBR,HBq⟩
 case rest=>
 obtain⟨BA,pA,cA,qA,dA,rfl,rfl,HOkA,HRA,HQA⟩:=hcut;obtain⟨WA,hWA⟩:∃ x,x=wc:=⟨_,rfl⟩;subst hWA;go_upto_region 4 with fail
 go_cut [11,12] from 30 to 37 (fun u v wx=>∃ B p c q d,u= .pointer (some ⟨B,0,none⟩)∧v= .pointer (some ⟨B+1,0,none⟩)∧Hid ((au S9).stk.length≤c)∧Hid (fZ W3 (au S9) k9 i9 B (B+1) p c q d wx)∧Hid (Below WA.heap.size WA wx))
 case first=>
  have hb0:Below W3.heap.size W3 WA:=HRA.out.bel;have hst:=HSt.out.next hb0;have ri:=aH hst.bi [.slice P.p0 I.banks.length P.c0,.int .u16 I.en,.int .u16 I.ve,.slice P.p1 I.data.length P.c1,.slice P.p2 I.rel.length P.c2] (fun j v hv=>by rw[← hv];simp[imR]);have rt:=aH hst.bt [.slice pi T.inn.length ci,.slice pq T.irq.length cq] (fun j v hv=>by rw[← hv];simp);have rs:=aH hst.bs (snL X pX cX none 0) (fun j v hv=>by rw[← hv];simp[snL,snA]);have HRun:=Nc (BF P I T pi pq ci cq X pX none cX 0 m0 WA hst.iok hst.tok hst.xok hst.has hst.hin hst.hir hst.sn HMx.out (by omega) (by have:=HlX.out;omega));rw[HRR.out] at HRun;have HRg:=Nc (And.intro ri (And.intro rt rs));have HB0:=Nc hb0;clear hb0 hst ri rt rs;go_wp2_with (first
   | refine wpList_load_mid rfl 33 _ rfl g 0 rfl [.slice P.p0 I.banks.length P.c0,.int .u16 I.en,.int .u16 I.ve,.slice P.p1 I.data.length P.c1,.slice P.p2 I.rel.length P.c2] _ HRg.out.1 Tryz.underlying33 rfl dP ?_
   | refine wpList_load_mid rfl 43 _ rfl (g+1+1) 0 rfl [.slice pi T.inn.length ci,.slice pq T.irq.length cq] _ HRg.out.2.1 Tryz.underlying43 rfl iy ?_
   | refine wpList_load_mid rfl 40 _ rfl (g+1) 0 rfl (snL X pX cX none 0) _ HRg.out.2.2 Tryz.underlying40 rfl aU ?_)
  refine HRun.out.mono ?_;rintro e w9 ⟨⟨p9,c9,q9,d9,rfl,hs9,_,_,hcap⟩,hb9⟩;have HOk:=Nc (hcap);have HZ:=Nc (Fg w9 (au S9) 0 0 c9 d9 p9 q9 zS);have HBR:=Nc (fZ.new (k:=k9) (i:=i9) (c:=c9) (d:=d9) (HB0.out.trans (hb9.mono HB0.out.size)) hs9 zS (.int .i64 0) (.int .u16 0));have HBq:=Nc (fZ.new (k:=k9) (i:=i9) (c:=c9) (d:=d9) hb9 hs9 zS (.int .i64 0) (.int .u16 0)).bel;clear hs9 hb9 hcap;unfold iL;go_wp2_with (first
   | refine wpList_store_row rfl 40 _ _ rfl w9.heap.size (snA (au S9) p9 c9 q9 d9) rfl rfl 40 _ HZ.out.1 aU (by rfl) (by simp[snA,Value.oneCell']) ?_
   | refine wpList_store_row rfl 47 _ _ rfl (w9.heap.size+1) #[.int .i64 k9,.int .u16 i9] rfl rfl 47 _ HZ.out.2 dV (by rfl) (by simp[Value.oneCell']) ?_)
  go_meet
  exact⟨_,_,_,_,_,rfl,rfl,HOk,HBR,HBq⟩
 case rest=>
 obtain⟨BC,pC,cC,qC,dC,rfl,rfl,HcC,HC,HQC⟩:=hcut;obtain⟨WC,hWC⟩:∃ x,x=wc:=⟨_,rfl⟩;subst hWC;have HA:=HRA;have HA:=Nc (HA.out.next HQC.out);have rSA:=Nc (aH HA.out.snap (snL (au S9) pA cA qA dA) (fun j v hv=>by rw[← hv];simp[snL,snA]));have rFA:_=some (Value.int .i64 k9):=ae HA.out.trap 0 _ rfl;have rGA:_=some (Value.int .u16 i9):=ae HA.out.trap 1 _ rfl;have rSC:=Nc (aH HC.out.snap (snL (au S9) pC cC qC dC) (fun j v hv=>by rw[← hv];simp[snL,snA]));have rFC:_=some (Value.int .i64 k9):=ae HC.out.trap 0 _ rfl;have rGC:_=some (Value.int .u16 i9):=ae HC.out.trap 1 _ rfl;have heq:=uC k9 i9 k9 i9;simp only[and_self,decide_true] at heq;have HSame:=Nc (rQ (au S9) (au S9) pA qA cA dA pC qC cC dC WC HOkA.out.1.sn HOkA.out.1.sn HA.out.lists HC.out.lists HOkA.out.2 HcC.out (by have:=HLen.out;omega) (by have:=HLen.out;omega));have HFin:=Nc (HB3.out.trans (HA.out.bel.mono (by have h1:=HB3.out.size;have h2:=HGa.out;omega)));go_wp2_with (first
  | refine gp (by rfl) 40 _ rfl BA 0 rfl (snL (au S9) pA cA qA dA) _ rSA.out Tryz.underlying40 rfl aU ?_
  | refine gp (by rfl) 40 _ rfl BC 0 rfl (snL (au S9) pC cC qC dC) _ rSC.out Tryz.underlying40 rfl aU ?_)
 refine HSame.out.mono ?_;rintro e v1 ⟨⟨bb,rfl,hbb⟩,hb⟩;obtain rfl:=hbb.2 ⟨rfl,rfl,rfl,rfl⟩;have HFb:=Nc (HFin.out.trans (hb.mono (by have h1:=HFin.out.size;have h2:=HGa.out;omega)));clear hb rSA rFA rGA rSC rFC rGC;go_wp2_with fail
 go_ret
 exact⟨rfl,by rw[HGa.out];exact HFb.out⟩
theorem walk'(w:World)(p:Option Addr)(n c:Nat)(n0 n1 n2 n3:Int)(pt:Option Addr)(nt ct:Nat)(hR:Rw5 w p n)(hn:n≤9223372036854775807)(hc:n≤c)(hT:Ri w pt nt)(hnt:nt≤9223372036854775807)(a:Int)(ha:0≤a∧a < 256)(ht:iq w)
  (hsan:∀ W,iq W→Calls Tryz.prog 12 #[] W fun e w'=>e= .returned (.bool true)∧Below W.heap.size W w'):
  Calls Tryz.prog 3 #[.agg #[.slice p n c,.int .i64 n0,.int .i64 n1,.int .i64 n2,.int .i64 n3,.slice pt nt ct],.int .u8 a] w fun e w'=>e= .returned (.bool true)∧Below w.heap.size w w':=
 walk p n c n0 n1 n2 n3 pt nt ct a w hR hn hc hT hnt ha ht hsan
end Go.Proofs.YthkcloapiefggaaGreatDoor.cpuRuns
