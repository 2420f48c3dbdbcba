import Derived.Test.YthkcloapiefggaaGreatDoorQRqz
import Derived.Test.YthkcloapiefggaaGreatDoorQEvy
import Derived.Test.YthkcloapiefggaaGreatDoorQSmr
import Derived.Test.YthkcloapiefggaaGreatDoorQSan
import Derived.Test.YthkcloapiefggaaGreatDoorQXbx
namespace Go.Proofs.YthkcloapiefggaaGreatDoor.cpuSteps
set_option linter.unusedVariables false
set_option linter.unusedSimpArgs false
set_option maxRecDepth 100000
set_option maxHeartbeats 1000000
open Go.ChangeShapes Go.WideShapes Go.RowKit
theorem gp{P:Program}{ops:Array Oper}{rest:List Oper}{op:Oper}{a:Act}{w:World}{Q:Exit→Act→World→Prop}(hw:Region.wanted op (yielded ops a.tmps)=true)(ty:TypeId)(x:Operand)(ho:op.op= .load ty x)
  (b o:Nat) (hx:a.eval x= .pointer (some ⟨b,o,none⟩)) (cs:List Value) (d:TypeDesc) (hc:w.rangeAt b o cs)
  (hu:P.underlying ty=some d) (hd:d.isRow=true) (hi:(P.info? ty).map (·.size)=some cs.length)
  (h:wpList P ops Q rest (a.put op.dst (.agg cs.toArray)) w):wpList P ops Q (op::rest) a w:=
 wpList_step fun K hK=>by rw[if_pos hw];exact wp_load_mid ty x ho b o hx cs d hc hu hd hi (hK _ _ h)
theorem runP_len(I:Im)(T:Tp):∀ (n:Nat) (S:Ms),(eP I T n S).1.out.length≤S.out.length+n
 | 0,S=>Nat.le_refl _
 | n+1,S=>by
  cases hs:eQ I T S with
  | ok S'=>
   rw[yx n hs];have:=runP_len I T n S';have:=(jl I T S).out S' hs;omega
  | tr k i=>rw[yw n hs];show S.out.length≤_;omega
theorem zu(I:Im)(T:Tp)(S:Ms):(gX I T S).1.out.length≤S.out.length+1:=by
 rw[uY];have h:=jl I T S;cases hr:eQ I T S with
 | ok S'=>exact h.out S' hr
 | tr k i=>show S.out.length≤_;omega
structure Sb(g:Nat)(P:Pl)(I:Im)(T:Tp)(pi pq:Option Addr)(V0:World):Prop where
 sz:V0.heap.size=g
 iok:I.Ok
 tok:T.Ok
 has:Has V0 P I
 hin:Slo V0 pi (inC T.inn)
 hir:Slo V0 pq (irC T.irq)
 tab:iq V0
 pos:0 < g
structure St4(g:Nat)(P:Pl)(I:Im)(T:Tp)(pi pq:Option Addr)(ci cq:Nat)(V0:World)(Y:Sn)(p q:Option Addr)(c d:Nat)(V:World):Prop where
 bi:V.heap[g]? =some (.cells (imR P I) 33 (0,0))
 bs:V.heap[g+1]? =some (.cells (snA Y p c q d) 40 (0,0))
 bt:V.heap[g+1+1]? =some (.cells #[.slice pi T.inn.length ci,.slice pq T.irq.length cq] 43 (0,0))
 bel:Below V0.heap.size V0 V
 ok:Y.Ok
 sn:SnH V Y p q
section
variable {g ci cq c d c' d':Nat} {P:Pl} {I:Im} {T:Tp} {pi pq p q p' q':Option Addr} {V0 V U:World} {Y Y':Sn}
theorem St4.next(h:St4 g P I T pi pq ci cq V0 Y p q c d V)(hb:Below V.heap.size V U):St4 g P I T pi pq ci cq V0 Y p q c d U:=
 ⟨af h.bi hb,af h.bs hb,af h.bt hb,h.bel.trans (hb.mono h.bel.size),h.ok,h.sn.below hb⟩
theorem St4.put(h:St4 g P I T pi pq ci cq V0 Y p q c d V)(hz:V0.heap.size=g)(hok:Y'.Ok)(hs:SnH V Y' p' q'):
  St4 g P I T pi pq ci cq V0 Y' p' q' c' d' (V.setRow (g+1) (snA Y' p' c' q' d')):=
 ⟨(setRow_other _ _ _ _ (by omega)).trans h.bi,setRow_heap _ _ _ _ _ _ h.bs,(setRow_other _ _ _ _ (by omega)).trans h.bt,below_setRow h.bel (by omega) _,hok,hs.jf h.bs (by decide) (by decide) _⟩
end
set_option maxHeartbeats 20000000 in
theorem walk(p:Option Addr)(n c:Nat)(n0 n1 n2 n3:Int)(pt:Option Addr)(nt ct:Nat)(a0:Int)(w:World)(hR:Rw5 w p n)(hn:n≤9223372036854775807)(hc:n≤c)(hT:Ri w pt nt)(hnt:nt≤9223372036854775807)(h0:0≤a0∧a0 < 256)(ht:iq w)
  (hsan:∀ W,iq W→Calls Tryz.prog 12 #[] W fun e w'=>e= .returned (.bool true)∧Below W.heap.size W w'):
  Calls Tryz.prog 4 #[.agg #[.slice p n c,.int .i64 n0,.int .i64 n1,.int .i64 n2,.int .i64 n3,.slice pt nt ct],.int .u8 a0] w fun e w'=>e= .returned (.bool true)∧Below w.heap.size w w':=by
 obtain⟨m0,rfl⟩:∃ m:Nat,a0=m:=⟨a0.toNat,by omega⟩;have HPos:Hid (0 < w.heap.size):=Nc (by obtain⟨_,_,h⟩:=ht;exact lt_of_block h);have HTab:=Nc ht;have HSan:=Nc hsan;have HSu:=Nc (fun W (hb:Below w.heap.size w W)=>rP p n c n0 n1 n2 n3 pt nt ct W (fun i hi=>hR.below hb i hi) hn hc (fun i hi=>by obtain⟨g,o,x,e,hx⟩:=hT i hi;exact⟨g,o,x,e,fun V hV=>hx V (hb.trans (hV.mono hb.size))⟩) hnt);have hm0:(m0:Int) < 256:=h0.2;clear ht hsan hR hn hc hT hnt h0;obtain⟨n9,hn9,hn91⟩:∃ n9:Nat,(m0:Int)%31=(n9:Int)∧(n9:Int) < 31:=⟨m0%31,by omega,by omega⟩;have htm:(m0:Int).tmod 31=(n9:Int):=(Int.tmod_eq_emod_of_nonneg (by omega)).trans hn9;have hwm:IntKind.u8.wrap (n9:Int)=(n9:Int):=(IntKind.wrap_u8 _).trans (Int.emod_eq_of_lt (by omega) (by omega));clear hn9;go_enter Tryz.func4,Tryz.ntmps4
 go_wp2_with fail
 refine(HSan.out _ (bF HPos.out HTab.out ((Below.refl _ _).alloc (Nat.le_refl _) _))).mono ?_;rintro e w1 ⟨rfl,hb1⟩;have B0:=(Below.refl _ w).alloc (Nat.le_refl _) (.cells #[.slice p n c,.int .i64 n0,.int .i64 n1,.int .i64 n2,.int .i64 n3,.slice pt nt ct] 26);have B1:=B0.trans (hb1.mono B0.size);have x0:=af (heap_alloc_new w (.cells #[.slice p n c,.int .i64 n0,.int .i64 n1,.int .i64 n2,.int .i64 n3,.slice pt nt ct] 26)) hb1;have HX0:=Nc (aH x0 [.slice p n c,.int .i64 n0,.int .i64 n1,.int .i64 n2,.int .i64 n3,.slice pt nt ct] (fun j v hv=>by rw[← hv];simp));have HB1:=Nc B1;have hT1:=bF HPos.out HTab.out B1;have HT1:=Nc hT1;clear hb1 B0 B1 x0 hT1 HSan;obtain⟨ga,hga⟩:∃ g,w.heap.size=g:=⟨_,rfl⟩;rw[hga] at HX0 HB1 HPos HSu;rw[hga];have HGa:=Nc hga;clear hga;go_upto_region 2 with fail
 try simp only[Act.put]
 go_cut [6,7,8] from 15 to 20 (fun u v x wx=>∃ g P I X pX cX T pi pq ci cq V0,u= .pointer (some ⟨g,0,none⟩)∧v= .pointer (some ⟨g+1,0,none⟩)∧x= .pointer (some ⟨g+1+1,0,none⟩)∧Hid (Sb g P I T pi pq V0)∧Hid (St4 g P I T pi pq ci cq V0 X pX none cX 0 wx)∧Hid (X.out.length=0∧X.stk.length≤cX)∧Hid (Below ga w V0)∧Hid (ga≤g))
 case first=>
  go_wp2_with (refine wpList_load_mid rfl 26 _ rfl ga 0 rfl [.slice p n c,.int .i64 n0,.int .i64 n1,.int .i64 n2,.int .i64 n3,.slice pt nt ct] _ HX0.out Tryz.underlying26 rfl wo ?_)
  refine(HSu.out _ HB1.out).mono ?_;rintro e w2 ⟨⟨P,I,X,pX,cX,T,pi,pq,ci,cq,rfl,i1,i2,i3,i4,i5,i6,i7,i8,i9,i10,i11⟩,hb2⟩;have hB:=bx3 w2 #[.slice none 0 0,.int .u16 0,.int .u16 0,.slice none 0 0,.slice none 0 0] zS #[.slice none 0 0,.slice none 0 0] (imR P I) (snA X pX cX none 0) #[.slice pi T.inn.length ci,.slice pq T.irq.length cq] 33 40 43;have B2:=HB1.out.trans (hb2.mono (by have:=HGa.out;have:=HB1.out.size;omega));have B3:=B2.trans (hB.bel.mono (by have:=HGa.out;have:=B2.size;omega));have HSb:=Nc (show Sb w2.heap.size P I T pi pq w2 from⟨rfl,i1,i9,i3,i10.slo,i11.slo,bF HPos.out HTab.out B2,by have h1:=B2.size;have h2:=HPos.out;have h3:=HGa.out;omega⟩);have HS3:=Nc (show St4 w2.heap.size P I T pi pq ci cq w2 X pX none cX 0 _ from⟨hB.a1,hB.a2,hB.a3,hB.bel,i2,i4.below hB.bel⟩);have HBx:=Nc (And.intro hB.z1 (And.intro hB.z2 hB.z3));have HB3:=Nc B3;have HM3:=Nc (show X.out.length=0∧X.stk.length≤cX from⟨by rw[i7];rfl,i6⟩);have HGg:=Nc (show ga≤w2.heap.size by have:=B2.size;have:=HGa.out;omega);have HB2':=Nc B2;clear i1 i2 i3 i4 i5 i6 i7 i8 i9 i10 i11 hb2 hB B2 B3;unfold imV snV;go_wp2_with (first
   | refine wpList_store_row rfl 33 _ _ rfl w2.heap.size (imR P I) rfl rfl 33 _ HBx.out.1 dP (by rfl) (by simp[imR,Value.oneCell']) ?_
   | refine wpList_store_row rfl 40 _ _ rfl (w2.heap.size+1) (snA X pX cX none 0) rfl rfl 40 _ HBx.out.2.1 aU (by rfl) (by simp[snA,Value.oneCell']) ?_
   | refine wpList_store_row rfl 43 _ _ rfl (w2.heap.size+1+1) #[.slice pi T.inn.length ci,.slice pq T.irq.length cq] rfl rfl 43 _ HBx.out.2.2 iy (by rfl) (by simp[Value.oneCell']) ?_)
  go_meet
  exact⟨_,P,I,X,pX,cX,T,pi,pq,ci,cq,w2,rfl,rfl,rfl,HSb,HS3,HM3,HB2',HGg⟩
 case rest=>
 obtain⟨g,P,I,X,pX,cX,T,pi,pq,ci,cq,V0,rfl,rfl,rfl,HSb,HSt,HMx,HB3,HGg⟩:=hcut;obtain⟨W3,hW3⟩:∃ x,x=wc:=⟨_,rfl⟩;subst hW3;clear HX0 HSu HB1 HT1;have HEnd:=Nc (fun U (h:Below V0.heap.size V0 U)=>show Below w.heap.size w U by rw[HGa.out];exact HB3.out.trans (h.mono (by have:=HSb.out.sz;have:=HGg.out;omega)));go_wp2_with fail
 go_loopw [9] (fun vk wr=>∃ (k:Nat) (Y:Sn) (p q:Option Addr) (c d:Nat),k≤n9∧vk= .int .i64 k∧Hid (Y.out.length≤k∧Y.stk.length≤c)∧Hid (St4 g P I T pi pq ci cq V0 Y p q c d wr)) (fun vk _=>n9-(intOf vk).toNat)
 case atStart=>exact⟨0,X,pX,none,cX,0,Nat.zero_le _,rfl,Nc ⟨by rw[HMx.out.1];exact Nat.le_refl _,HMx.out.2⟩,HSt⟩
 case round=>
 obtain⟨k,Y,p5,q5,c5,d5,hk,rfl,HY,HS4⟩:=hrel;by_cases h8:k < n9
 ·have h8':(k:Int) < n9:=by omega
  obtain⟨R,hR⟩:∃ R,gX I T (aQ Y)=R:=⟨_,rfl⟩;have hlen:=zu I T (aQ Y);rw[hR] at hlen;have HLen:=Nc (show(au R.1).out.length≤k+1 by show R.1.out.length≤k+1;have h:=HY.out.1;have h2:(aQ Y).out.length=Y.out.length:=rfl;omega);have HC1:=Nc (fun U (hb:Below wr.heap.size wr U)=>xY P I T pi pq ci cq Y p5 q5 c5 d5 U HSb.out.iok HSb.out.tok HS4.out.ok (HSb.out.has.below (HS4.out.next hb).bel) (HSb.out.hin.below (HS4.out.next hb).bel) (HSb.out.hir.below (HS4.out.next hb).bel) (HS4.out.next hb).sn (bF (by rw[HSb.out.sz];exact HSb.out.pos) HSb.out.tab (HS4.out.next hb).bel) (by have:=HY.out.1;omega));have HC2:=Nc (fun U (hb:Below wr.heap.size wr U)=>zF P I T pi pq ci cq Y p5 q5 c5 d5 U HSb.out.iok HSb.out.tok HS4.out.ok (HSb.out.has.below (HS4.out.next hb).bel) (HSb.out.hin.below (HS4.out.next hb).bel) (HSb.out.hir.below (HS4.out.next hb).bel) (HS4.out.next hb).sn HY.out.2 (by have:=HY.out.1;omega));rw[hR] at HC1 HC2;clear hR hlen;obtain⟨S9,k9,i9⟩:=R;have HLen:=Nc (show(au S9).out.length≤k+1 from HLen.out);go_upto_region 6 with fail
  go_cut [10,11] from 28 to 34 (fun u v wx=>∃ B p c q d,u= .pointer (some ⟨B,0,none⟩)∧v= .pointer (some ⟨B+1,0,none⟩)∧Hid (OkE S9∧(au S9).stk.length≤c)∧Hid (fZ wr (au S9) k9 i9 B (B+1) p c q d wx))
  case first=>
   have hst:=HS4.out;have HRg:=Nc (And.intro (aH hst.bi (imL P I) (fun j v hv=>by rw[← hv];simp[imR,imL])) (And.intro (aH hst.bt (tpL T pi ci pq cq) (fun j v hv=>by rw[← hv];simp[tpL])) (aH hst.bs (snL Y p5 c5 q5 d5) (fun j v hv=>by rw[← hv];simp[snL,snA]))));clear hst;go_wp2_with (first
   | refine wpList_load_mid rfl 33 _ rfl g 0 rfl (imL P I) _ HRg.out.1 Tryz.underlying33 rfl dP ?_
   | refine wpList_load_mid rfl 43 _ rfl (g+1+1) 0 rfl (tpL T pi ci pq cq) _ HRg.out.2.1 Tryz.underlying43 rfl iy ?_
   | refine wpList_load_mid rfl 40 _ rfl (g+1) 0 rfl (snL Y p5 c5 q5 d5) _ HRg.out.2.2 Tryz.underlying40 rfl aU ?_)
   refine(HC1.out _ (Below.refl _ _)).mono ?_;rintro e w9 ⟨⟨⟨p9,c9,q9,d9,rfl,hs9,_,_,hcap⟩,hok⟩,hb9⟩;have HOk:=Nc (And.intro hok hcap);have HZ:=Nc (Fg w9 (au S9) 0 0 c9 d9 p9 q9 zS);have HBR:=Nc (fZ.new (k:=k9) (i:=i9) (c:=c9) (d:=d9) hb9 hs9 zS (.int .i64 0) (.int .u16 0));clear hs9 hb9 hcap hok;unfold iL snV;go_wp2_with (first
    | refine wpList_store_row rfl 40 _ _ rfl w9.heap.size (snA (au S9) p9 c9 q9 d9) rfl rfl 40 _ HZ.out.1 aU (by rfl) (by simp[snA,Value.oneCell']) ?_
    | refine wpList_store_row rfl 47 _ _ rfl (w9.heap.size+1) #[.int .i64 k9,.int .u16 i9] rfl rfl 47 _ HZ.out.2 dV (by rfl) (by simp[Value.oneCell']) ?_)
   go_meet
   exact⟨_,_,_,_,_,rfl,rfl,HOk,HBR⟩
  case rest=>
  obtain⟨BA,pA,cA,qA,dA,rfl,rfl,HOkA,HA⟩:=hcut;obtain⟨WA,hWA⟩:∃ x,x=wc:=⟨_,rfl⟩;subst hWA;go_upto_region 7 with fail
  go_cut [12,13] from 35 to 41 (fun u v wx=>∃ B p c q d,u= .pointer (some ⟨B,0,none⟩)∧v= .pointer (some ⟨B+1,0,none⟩)∧Hid ((au S9).stk.length≤c)∧Hid (fZ WA (au S9) k9 i9 B (B+1) p c q d wx))
  case first=>
   have hst:=HS4.out.next HA.out.bel;have HRg:=Nc (And.intro (aH hst.bi (imL P I) (fun j v hv=>by rw[← hv];simp[imR,imL])) (And.intro (aH hst.bt (tpL T pi ci pq cq) (fun j v hv=>by rw[← hv];simp[tpL])) (aH hst.bs (snL Y p5 c5 q5 d5) (fun j v hv=>by rw[← hv];simp[snL,snA]))));clear hst;go_wp2_with (first
   | refine wpList_load_mid rfl 33 _ rfl g 0 rfl (imL P I) _ HRg.out.1 Tryz.underlying33 rfl dP ?_
   | refine wpList_load_mid rfl 43 _ rfl (g+1+1) 0 rfl (tpL T pi ci pq cq) _ HRg.out.2.1 Tryz.underlying43 rfl iy ?_
   | refine wpList_load_mid rfl 40 _ rfl (g+1) 0 rfl (snL Y p5 c5 q5 d5) _ HRg.out.2.2 Tryz.underlying40 rfl aU ?_)
   refine(HC2.out _ HA.out.bel).mono ?_;rintro e w9 ⟨⟨p9,c9,q9,d9,rfl,hs9,_,_,hcap⟩,hb9⟩;have HOk:=Nc hcap;have HZ:=Nc (Fg w9 (au S9) 0 0 c9 d9 p9 q9 zS);have HBR:=Nc (fZ.new (k:=k9) (i:=i9) (c:=c9) (d:=d9) hb9 hs9 zS (.int .i64 0) (.int .u16 0));clear hs9 hb9 hcap;unfold iL snV;go_wp2_with (first
    | refine wpList_store_row rfl 40 _ _ rfl w9.heap.size (snA (au S9) p9 c9 q9 d9) rfl rfl 40 _ HZ.out.1 aU (by rfl) (by simp[snA,Value.oneCell']) ?_
    | refine wpList_store_row rfl 47 _ _ rfl (w9.heap.size+1) #[.int .i64 k9,.int .u16 i9] rfl rfl 47 _ HZ.out.2 dV (by rfl) (by simp[Value.oneCell']) ?_)
   go_meet
   exact⟨_,_,_,_,_,rfl,rfl,HOk,HBR⟩
  case rest=>
  obtain⟨BC,pC,cC,qC,dC,rfl,rfl,HcC,HC⟩:=hcut;obtain⟨WC,hWC⟩:∃ x,x=wc:=⟨_,rfl⟩;subst hWC;have HS5:=Nc ((HS4.out.next HA.out.bel).next HC.out.bel);have HA:=Nc (HA.out.next HC.out.bel);clear HS4 HC1 HC2;have rSA:=Nc (aH HA.out.snap (snL (au S9) pA cA qA dA) (fun j v hv=>by rw[← hv];simp[snL,snA]));have rFA:_=some (Value.int .i64 k9):=ae HA.out.trap 0 _ rfl;have rGA:_=some (Value.int .u16 i9):=ae HA.out.trap 1 _ rfl;have rSC:=Nc (aH HC.out.snap (snL (au S9) pC cC qC dC) (fun j v hv=>by rw[← hv];simp[snL,snA]));have rFC:_=some (Value.int .i64 k9):=ae HC.out.trap 0 _ rfl;have rGC:_=some (Value.int .u16 i9):=ae HC.out.trap 1 _ rfl;have hneq:=IV k9 i9 k9 i9;simp only[and_self,decide_true,not_true_eq_false,decide_false,Bool.not_true] at hneq;have HSame:=Nc (rQ (au S9) (au S9) pA qA cA dA pC qC cC dC WC HOkA.out.1.sn HOkA.out.1.sn HA.out.lists HC.out.lists HOkA.out.2 HcC.out (by have:=HLen.out;omega) (by have:=HLen.out;omega));go_wp2_with (first
   | refine gp (by rfl) 40 _ rfl BA 0 rfl (snL (au S9) pA cA qA dA) _ rSA.out Tryz.underlying40 rfl aU ?_
   | refine gp (by rfl) 40 _ rfl BC 0 rfl (snL (au S9) pC cC qC dC) _ rSC.out Tryz.underlying40 rfl aU ?_)
  refine HSame.out.mono ?_;rintro e v1 ⟨⟨bb,rfl,hbb⟩,hb⟩;obtain rfl:=hbb.2 ⟨rfl,rfl,rfl,rfl⟩;have HS6:=Nc (HS5.out.next hb);have c0:v1.cell? ⟨BC+1,0,none⟩=some (.int .i64 k9):=jA rFC hb;have HC6:=Nc (HC.out.next hb);clear hb rSA rFA rGA rSC rFC rGC hneq hbb HA HC HS5;by_cases hk9:k9=0
  ·subst hk9
   have HS7:=Nc (HS6.out.put (c':=cC) (d':=dC) HSb.out.sz HOkA.out.1.sn HC6.out.lists);have rS:=Nc (aH HC6.out.snap (snL (au S9) pC cC qC dC) (fun j v hv=>by rw[← hv];simp[snL,snA]));go_wp2_with (first
    | refine wpList_load_mid rfl 40 _ rfl BC 0 rfl (snL (au S9) pC cC qC dC) _ rS.out Tryz.underlying40 rfl aU ?_
    | refine wpList_store_row rfl 40 _ _ rfl (g+1) (snA (au S9) pC cC qC dC) rfl rfl 40 _ HS6.out.bs aU (by rfl) (by simp[snA,Value.oneCell']) ?_)
   go_roundw
   case rel=>exact⟨k+1,au S9,pC,qC,cC,dC,h8,by go_num,Nc ⟨HLen.out,HcC.out⟩,HS7⟩
   case measure=>simp[intOf];omega
  ·have hkb:(k9 != 0)=true:=by simp;exact hk9
   go_wp2_with fail
   go_ret
   exact⟨rfl,HEnd.out _ HS6.out.bel⟩
 have h8':¬ (k:Int) < n9:=by omega
 go_wp2_with fail
 go_ret
 exact⟨rfl,HEnd.out _ HS4.out.bel⟩
theorem walk'(w:World)(p:Option Addr)(n c:Nat)(n0 n1 n2 n3:Int)(pt:Option Addr)(nt ct:Nat)(hR:Rw5 w p n)(hn:n≤9223372036854775807)(hc:n≤c)(hT:Ri w pt nt)(hnt:nt≤9223372036854775807)(a:Int)(ha:0≤a∧a < 256)(ht:iq w)
  (hsan:∀ W,iq W→Calls Tryz.prog 12 #[] W fun e w'=>e= .returned (.bool true)∧Below W.heap.size W w'):
  Calls Tryz.prog 4 #[.agg #[.slice p n c,.int .i64 n0,.int .i64 n1,.int .i64 n2,.int .i64 n3,.slice pt nt ct],.int .u8 a] w fun e w'=>e= .returned (.bool true)∧Below w.heap.size w w':=
 walk p n c n0 n1 n2 n3 pt nt ct a w hR hn hc hT hnt ha ht hsan
end Go.Proofs.YthkcloapiefggaaGreatDoor.cpuSteps
