import Derived.Test.YthkcloapiefggaaGreatDoorQXsm
import Derived.Test.YthkcloapiefggaaGreatDoorQRlq
namespace Go.Proofs.YthkcloapiefggaaGreatDoor
set_option linter.unusedVariables false
set_option linter.unusedSimpArgs false
set_option maxRecDepth 100000
set_option maxHeartbeats 1000000
open Go.ChangeShapes Go.WideShapes Go.RowKit
theorem EL{x y:ByteArray}(h:x.toList=y.toList):x=y:=by
 rw[ByteArray.toList_eq,ByteArray.toList_eq] at h;apply ByteArray.ext;exact Array.toList_inj.1 h
theorem Dk{x y:ByteArray}{b:Bool}(h:decide (x=y)=b):decide (x.toList=y.toList)=b∧(x.toList==y.toList)=b:=by
 have h1:decide (x.toList=y.toList)=b:=by rw[← h];exact decide_eq_decide.2 ⟨EL,fun e=>by rw[e]⟩
 exact⟨h1,by rw[← h1];exact Bool.beq_eq_decide_eq _ _⟩
theorem yQ(X:Sn):(nrm X).stk.length=min X.stk.length 4096:=by
 show((List.range (aQ X).sp).map _).length=_
 rw[List.length_map,List.length_range];rfl
set_option maxHeartbeats 8000000 in
theorem rQ(X Y:Sn)(p q:Option Addr)(c d:Nat)(p' q':Option Addr)(c' d':Nat)(w:World)(hX:X.Ok)(hY:Y.Ok)(h1:SnH w X p q)(h2:SnH w Y p' q')(hc:X.stk.length≤c)(hc':Y.stk.length≤c')(hl:X.out.length≤1000000000)(hl':Y.out.length≤1000000000):
  Calls Tryz.prog 16 #[.agg #[.int .u16 (X.r 0),.int .u16 (X.r 1),.int .u16 (X.r 2),.int .u16 (X.r 3),.int .u16 (X.r 4),.int .u16 (X.r 5),.int .u16 (X.r 6),.int .u16 (X.r 7),.int .u16 X.pc,.int .u16 X.sp,.int .u16 X.fp,.int .u16 X.f,.int .i64 X.aF,.int .i64 X.steps,.int .i64 X.inp,.int .i64 X.pol,.string X.ram,.slice p X.stk.length c,.slice q X.out.length d],.agg #[.int .u16 (Y.r 0),.int .u16 (Y.r 1),.int .u16 (Y.r 2),.int .u16 (Y.r 3),.int .u16 (Y.r 4),.int .u16 (Y.r 5),.int .u16 (Y.r 6),.int .u16 (Y.r 7),.int .u16 Y.pc,.int .u16 Y.sp,.int .u16 Y.fp,.int .u16 Y.f,.int .i64 Y.aF,.int .i64 Y.steps,.int .i64 Y.inp,.int .i64 Y.pol,.string Y.ram,.slice p' Y.stk.length c',.slice q' Y.out.length d']] w fun e w'=>(∃ b,e= .returned (.bool b)∧(b=true↔pU X Y))∧Below w.heap.size w w':=by
 have HX0:=heap_alloc_new w (.cells #[.int .u16 (X.r 0),.int .u16 (X.r 1),.int .u16 (X.r 2),.int .u16 (X.r 3),.int .u16 (X.r 4),.int .u16 (X.r 5),.int .u16 (X.r 6),.int .u16 (X.r 7),.int .u16 X.pc,.int .u16 X.sp,.int .u16 X.fp,.int .u16 X.f,.int .i64 X.aF,.int .i64 X.steps,.int .i64 X.inp,.int .i64 X.pol,.string X.ram,.slice p X.stk.length c,.slice q X.out.length d] 40);have HX1:=aj _ (.cells #[.int .u16 (Y.r 0),.int .u16 (Y.r 1),.int .u16 (Y.r 2),.int .u16 (Y.r 3),.int .u16 (Y.r 4),.int .u16 (Y.r 5),.int .u16 (Y.r 6),.int .u16 (Y.r 7),.int .u16 Y.pc,.int .u16 Y.sp,.int .u16 Y.fp,.int .u16 Y.f,.int .i64 Y.aF,.int .i64 Y.steps,.int .i64 Y.inp,.int .i64 Y.pol,.string Y.ram,.slice p' Y.stk.length c',.slice q' Y.out.length d'] 40) _ HX0;have HY1:=heap_alloc_new (w.alloc (.cells #[.int .u16 (X.r 0),.int .u16 (X.r 1),.int .u16 (X.r 2),.int .u16 (X.r 3),.int .u16 (X.r 4),.int .u16 (X.r 5),.int .u16 (X.r 6),.int .u16 (X.r 7),.int .u16 X.pc,.int .u16 X.sp,.int .u16 X.fp,.int .u16 X.f,.int .i64 X.aF,.int .i64 X.steps,.int .i64 X.inp,.int .i64 X.pol,.string X.ram,.slice p X.stk.length c,.slice q X.out.length d] 40)) (.cells #[.int .u16 (Y.r 0),.int .u16 (Y.r 1),.int .u16 (Y.r 2),.int .u16 (Y.r 3),.int .u16 (Y.r 4),.int .u16 (Y.r 5),.int .u16 (Y.r 6),.int .u16 (Y.r 7),.int .u16 Y.pc,.int .u16 Y.sp,.int .u16 Y.fp,.int .u16 Y.f,.int .i64 Y.aF,.int .i64 Y.steps,.int .i64 Y.inp,.int .i64 Y.pol,.string Y.ram,.slice p' Y.stk.length c',.slice q' Y.out.length d'] 40);have HB1:Below w.heap.size w ((w.alloc (.cells #[.int .u16 (X.r 0),.int .u16 (X.r 1),.int .u16 (X.r 2),.int .u16 (X.r 3),.int .u16 (X.r 4),.int .u16 (X.r 5),.int .u16 (X.r 6),.int .u16 (X.r 7),.int .u16 X.pc,.int .u16 X.sp,.int .u16 X.fp,.int .u16 X.f,.int .i64 X.aF,.int .i64 X.steps,.int .i64 X.inp,.int .i64 X.pol,.string X.ram,.slice p X.stk.length c,.slice q X.out.length d] 40)).alloc (.cells #[.int .u16 (Y.r 0),.int .u16 (Y.r 1),.int .u16 (Y.r 2),.int .u16 (Y.r 3),.int .u16 (Y.r 4),.int .u16 (Y.r 5),.int .u16 (Y.r 6),.int .u16 (Y.r 7),.int .u16 Y.pc,.int .u16 Y.sp,.int .u16 Y.fp,.int .u16 Y.f,.int .i64 Y.aF,.int .i64 Y.steps,.int .i64 Y.inp,.int .i64 Y.pol,.string Y.ram,.slice p' Y.stk.length c',.slice q' Y.out.length d'] 40)):=((Below.refl _ w).alloc (Nat.le_refl _) _).alloc (by simp) _;simp only[World.size_alloc] at HY1;have HOk:=Nc (And.intro hX hY);have HH:=Nc (And.intro h1 h2);have HC:=Nc (And.intro hc hc');have HL:=Nc (And.intro hl hl');have hbi:=Au;have hbt:=Ar;clear hX hY h1 h2 hc hc' hl hl' HX0;go_enter Tryz.func16,Tryz.ntmps16
 go_upto_region 1 with fail
 obtain⟨W1,hW1⟩:∃ W,(w.alloc (.cells #[.int .u16 (X.r 0),.int .u16 (X.r 1),.int .u16 (X.r 2),.int .u16 (X.r 3),.int .u16 (X.r 4),.int .u16 (X.r 5),.int .u16 (X.r 6),.int .u16 (X.r 7),.int .u16 X.pc,.int .u16 X.sp,.int .u16 X.fp,.int .u16 X.f,.int .i64 X.aF,.int .i64 X.steps,.int .i64 X.inp,.int .i64 X.pol,.string X.ram,.slice p X.stk.length c,.slice q X.out.length d] 40)).alloc (.cells #[.int .u16 (Y.r 0),.int .u16 (Y.r 1),.int .u16 (Y.r 2),.int .u16 (Y.r 3),.int .u16 (Y.r 4),.int .u16 (Y.r 5),.int .u16 (Y.r 6),.int .u16 (Y.r 7),.int .u16 Y.pc,.int .u16 Y.sp,.int .u16 Y.fp,.int .u16 Y.f,.int .i64 Y.aF,.int .i64 Y.steps,.int .i64 Y.inp,.int .i64 Y.pol,.string Y.ram,.slice p' Y.stk.length c',.slice q' Y.out.length d'] 40)=W:=⟨_,rfl⟩;rw[hW1] at HX1 HY1 HB1;rw[hW1];have HX1:=Nc HX1;have HY1:=Nc HY1;have HB1:=Nc HB1;obtain⟨n,hn⟩:∃ n,w.heap.size=n:=⟨_,rfl⟩;have HN:=Nc hn;rw[hn] at HX1 HY1;rw[hn];clear hW1 hn;have HRX:=Nc (show W1.rangeAt n 0 (snL X p c q d) from aH HX1.out _ (fun j v hv=>by rw[← hv];simp[snL]));go_wp2_with (refine wpList_load_mid rfl 40 _ rfl n 0 rfl (snL X p c q d) _ HRX.out Tryz.underlying40 rfl aU ?_)
 refine(ut P0 I0 T0 none none 0 0 X p q c d W1 H8 H6 HOk.out.1 (KH _) (Sl.nil _ _).slo (Sl.nil _ _).slo (HH.out.1.below HB1.out) HC.out.1 HL.out.1).mono ?_;rintro e w2 ⟨E,sv,ov,rfl,e0,_,_,_,_,_,_,_,_,hm⟩;have HM:=Nc hm;have HE:=Nc e0;clear hm e0 HRX;go_wp2_with fail
 refine(ug E sv ov (aQ X) 0 0 0 _ HM.out (show X.out.length≤_ from HL.out.1)).mono ?_;rintro e w3 ⟨⟨p1,c1,q1,d1,rfl,hs1,hf1,hf2,hcp1⟩,hb3⟩;have hb13:Below W1.heap.size W1 w3:=HE.out▸hb3;have HXn:=Nc (heap_alloc_new w3 (.cells zS 40));have HA:=Nc (jT.new hs1 (c:=c1) (d:=d1) zS);have HB4:=Nc (show Below W1.heap.size W1 ((w3.alloc (.cells zS 40)).setRow w3.heap.size (snA (au (aQ X)) p1 c1 q1 d1)) from below_setRow (hb13.alloc hb13.size _) hb13.size _);clear hs1 hf1 hf2 hcp1 hb3 hb13 HM HE;go_upto_region 2 with(refine wpList_store_row rfl 40 _ _ rfl w3.heap.size (snA (au (aQ X)) p1 c1 q1 d1) rfl rfl 40 _ HXn.out aU (by rfl) (by simp[snA,Value.oneCell']) ?_)
 obtain⟨W4,hW4⟩:∃ W,(w3.alloc (.cells zS 40)).setRow w3.heap.size (snA (au (aQ X)) p1 c1 q1 d1)=W:=⟨_,rfl⟩;rw[hW4] at HA HB4;rw[hW4];obtain⟨a,ha⟩:∃ a,w3.heap.size=a:=⟨_,rfl⟩;rw[ha] at HA;rw[ha];clear hW4 ha HXn;have HRY:=Nc (show W4.rangeAt (n+1) 0 (snL Y p' c' q' d') from aH (af HY1.out HB4.out) _ (fun j v hv=>by rw[← hv];simp[snL]));go_wp2_with (refine wpList_load_mid rfl 40 _ rfl (n+1) 0 rfl (snL Y p' c' q' d') _ HRY.out Tryz.underlying40 rfl aU ?_)
 have hbw4:Below w.heap.size w W4:=HB1.out.trans (HB4.out.mono HB1.out.size);have HBw4:=Nc hbw4;refine(ut P0 I0 T0 none none 0 0 Y p' q' c' d' W4 H8 H6 HOk.out.2 (KH _) (Sl.nil _ _).slo (Sl.nil _ _).slo (HH.out.2.below hbw4) HC.out.2 HL.out.2).mono ?_;rintro e w5 ⟨E,sv,ov,rfl,e0,_,_,_,_,_,_,_,_,hm⟩;have HM:=Nc hm;have HE:=Nc e0;clear hm e0 HRY hbw4;go_wp2_with fail
 refine(ug E sv ov (aQ Y) 0 0 0 _ HM.out (show Y.out.length≤_ from HL.out.2)).mono ?_;rintro e w6 ⟨⟨p2,c2,q2,d2,rfl,hs2,hf3,hf4,hcp2⟩,hb6⟩;have hb46:Below W4.heap.size W4 w6:=HE.out▸hb6;have HXn:=Nc (heap_alloc_new w6 (.cells zS 40));have HBb:=Nc (jT.new hs2 (c:=c2) (d:=d2) zS);have hb47:Below W4.heap.size W4 ((w6.alloc (.cells zS 40)).setRow w6.heap.size (snA (au (aQ Y)) p2 c2 q2 d2)):=below_setRow (hb46.alloc hb46.size _) hb46.size _;have HA7:=Nc (HA.out.next hb47);have HB7:=Nc (HBw4.out.trans (hb47.mono HBw4.out.size));clear hs2 hf3 hf4 hcp2 hb6 hb46 hb47 HM HE HA;go_upto_region 3 with(refine wpList_store_row rfl 40 _ _ rfl w6.heap.size (snA (au (aQ Y)) p2 c2 q2 d2) rfl rfl 40 _ HXn.out aU (by rfl) (by simp[snA,Value.oneCell']) ?_)
 obtain⟨W7,hW7⟩:∃ W,(w6.alloc (.cells zS 40)).setRow w6.heap.size (snA (au (aQ Y)) p2 c2 q2 d2)=W:=⟨_,rfl⟩;rw[hW7] at HA7 HBb HB7;rw[hW7];obtain⟨b,hb⟩:∃ b,w6.heap.size=b:=⟨_,rfl⟩;rw[hb] at HBb;rw[hb];clear hW7 hb HXn;have HO1:Hid ((au (aQ X)).out.length≤1000000000):=Nc HL.out.1;have HO2:Hid ((au (aQ Y)).out.length≤1000000000):=Nc HL.out.2;have HS1:Hid ((au (aQ X)).stk.length≤4096):=Nc (by have:=yQ X;show(nrm X).stk.length≤_;omega);have HS2:Hid ((au (aQ Y)).stk.length≤4096):=Nc (by have:=yQ Y;show(nrm Y).stk.length≤_;omega);have HSm:Hid (pU X Y↔(stI (au (aQ X))=stI (au (aQ Y))∧(au (aQ X)).ram=(au (aQ Y)).ram∧(au (aQ X)).stk=(au (aQ Y)).stk∧(au (aQ X)).out=(au (aQ Y)).out)):=Nc Iff.rfl;obtain⟨A,hA⟩:∃ A,au (aQ X)=A:=⟨_,rfl⟩;obtain⟨B,hB⟩:∃ B,au (aQ Y)=B:=⟨_,rfl⟩;rw[hA] at HA7 HO1 HS1 HSm;rw[hB] at HBb HO2 HS2 HSm;clear hA hB hbi hbt HX1 HY1 HB1 HB4 HBw4 HC HL HH;have RA:=Nc (show W7.rangeAt a 0 (stX A) from fun j v hv=>HA7.out.range j v (by
  have hj:j < 16:=by have:=(List.getElem?_eq_some_iff.1 hv).1;simpa [stX] using this
  rw[← hv]
  rcases(show j=0∨j=1∨j=2∨j=3∨j=4∨j=5∨j=6∨j=7∨j=8∨j=9∨j=10∨j=11∨j=12∨j=13∨j=14∨j=15 by omega) with rfl|rfl|rfl|rfl|rfl|rfl|rfl|rfl|rfl|rfl|rfl|rfl|rfl|rfl|rfl|rfl<;>rfl))
 have RB:=Nc (show W7.rangeAt b 0 (stX B) from fun j v hv=>HBb.out.range j v (by
  have hj:j < 16:=by have:=(List.getElem?_eq_some_iff.1 hv).1;simpa [stX] using this
  rw[← hv]
  rcases(show j=0∨j=1∨j=2∨j=3∨j=4∨j=5∨j=6∨j=7∨j=8∨j=9∨j=10∨j=11∨j=12∨j=13∨j=14∨j=15 by omega) with rfl|rfl|rfl|rfl|rfl|rfl|rfl|rfl|rfl|rfl|rfl|rfl|rfl|rfl|rfl|rfl<;>rfl))
 have hst:=fun w=>IW A B w
 have a16:=HA7.out.at 16 (.string A.ram) rfl;have b16:=HBb.out.at 16 (.string B.ram) rfl;have a17:=HA7.out.at 17 (.slice p1 A.stk.length c1) rfl;have b17:=HBb.out.at 17 (.slice p2 B.stk.length c2) rfl;obtain⟨r1,hr1⟩:∃ r,A.ram=r:=⟨_,rfl⟩;obtain⟨r2,hr2⟩:∃ r,B.ram=r:=⟨_,rfl⟩;rw[hr1] at a16;rw[hr2] at b16;obtain⟨m1,hm1⟩:∃ m,A.stk.length=m:=⟨_,rfl⟩;obtain⟨m2,hm2⟩:∃ m,B.stk.length=m:=⟨_,rfl⟩;rw[hm1] at a17 HS1;rw[hm2] at b17 HS2;have HF:=Nc (And.intro hr1 (And.intro hr2 (And.intro hm1 hm2)));clear hr1 hr2 hm1 hm2;by_cases e1:stI A=stI B
 ·have e1':=decide_eq_true e1
  by_cases e2:r1=r2
  ·by_cases e3:m1=m2
   ·subst e2 e3
    go_wp2_with (first
     | refine wpList_load_mid rfl 36 _ rfl a 0 rfl (stX A) _ RA.out Tryz.underlying36 rfl iI ?_
     | refine wpList_load_mid rfl 36 _ rfl b 0 rfl (stX B) _ RB.out Tryz.underlying36 rfl iI ?_)
    clear RA RB hst a16 b16 a17 b17 e1';go_loopw [7] (fun vi wr=>∃ k:Nat,k≤m1∧vi= .int .i64 k∧Hid (Below W7.heap.size W7 wr)∧Hid (∀ j,j < k→A.stk[j]? =B.stk[j]?)) (fun vi _=>m1-(intOf vi).toNat)
    case atStart=>exact⟨0,Nat.zero_le _,rfl,Nc (Below.refl _ _),Nc (fun j hj=>absurd hj (Nat.not_lt_zero _))⟩
    case round=>
     obtain⟨k,hk,rfl,HK,HEq⟩:=hrel;have HAk:=HA7.out.next HK.out;have HBk:=HBb.out.next HK.out;have a17:wr.cell? ⟨a,17,none⟩=some (.slice p1 m1 c1):=by have h:=HAk.at 17 (.slice p1 A.stk.length c1) rfl;rw[HF.out.2.2.1] at h;exact h
     have b17:wr.cell? ⟨b,17,none⟩=some (.slice p2 m1 c2):=by have h:=HBk.at 17 (.slice p2 B.stk.length c2) rfl;rw[HF.out.2.2.2] at h;exact h
     have HWr:=Nc ((HB7.out.trans (HK.out.mono HB7.out.size)));by_cases hlt:k < m1
     ·have hlt':(k:Int) < (m1:Int):=by omega
      have hk0:(0:Int)≤(k:Int):=by omega
      have hm4:(m1:Int)≤4096:=by have:=HS1.out;omega
      have hka:k < A.stk.length:=by rw[HF.out.2.2.1];exact hlt
      have hkb:k < B.stk.length:=by rw[HF.out.2.2.2];exact hlt
      have hla:=HAk.lists.stk k (.int .u16 (A.stk[k])) (by simp[inC,hka]);have hlb:=HBk.lists.stk k (.int .u16 (B.stk[k])) (by simp[inC,hkb]);obtain⟨ga,hga,hca⟩:=hla;obtain⟨gb,hgb,hcb⟩:=hlb;subst hga hgb;have HXA:=Nc (List.getElem?_eq_getElem hka);have HXB:=Nc (List.getElem?_eq_getElem hkb);obtain⟨x,hx⟩:∃ x,A.stk[k]=x:=⟨_,rfl⟩;obtain⟨y,hy⟩:∃ y,B.stk[k]=y:=⟨_,rfl⟩;rw[hx] at hca HXA;rw[hy] at hcb HXB;have HS3:=Nc HS1.out;have HP:=Nc (And.intro HAk HBk);clear hx hy hka hkb HAk HBk;by_cases hxy:x=y
      ·subst hxy
       have HEq':=Nc (show ∀ j,j < k+1→A.stk[j]? =B.stk[j]? from fun j hj=>by
        rcases Nat.lt_succ_iff_lt_or_eq.1 hj with h|rfl
        ·exact HEq.out j h
        ·rw[HXA.out,HXB.out])
       go_wp2_with fail
       go_quiet (fail)
       go_wp2_with fail
       go_roundw
       case rel=>exact⟨k+1,by omega,by go_num,Nc (below_drewN HK.out),HEq'⟩
       case measure=>simp[intOf];omega
      ·have hq1:(x==y)=false:=by simpa using hxy
       have hq2:(x != y)=true:=by simpa using hxy
       have HFalse:=Nc (show ¬ pU X Y from fun hs=>by
        have h:=(HSm.out.1 hs).2.2.1;have h1:=HXA.out;rw[h,HXB.out] at h1;exact hxy (Option.some.inj h1).symm)
       go_wp2_with fail
       go_quiet (fail)
       go_wp2_with fail
       go_ret
       exact⟨⟨false,rfl,⟨fun h=>by simp at h,fun h=>absurd h HFalse.out⟩⟩,below_drewN HWr.out⟩
     ·obtain rfl:k=m1:=by omega
      have hstk:A.stk=B.stk:=vY HF.out.2.2.1 HF.out.2.2.2 (fun j hj=>HEq.out j hj);have a18:wr.cell? ⟨a,18,none⟩=some (.slice q1 A.out.length d1):=HAk.at 18 _ rfl;have b18:wr.cell? ⟨b,18,none⟩=some (.slice q2 B.out.length d2):=HBk.at 18 _ rfl;have HEv:=Nc (qO A.out B.out q1 q2 d1 d2 wr HAk.lists.out HBk.lists.out HO1.out HO2.out);have HTrue:=Nc (show(decide (A.out=B.out)=true↔pU X Y) from⟨fun h=>HSm.out.2 ⟨e1,HF.out.1.trans HF.out.2.1.symm,hstk,of_decide_eq_true h⟩,fun h=>decide_eq_true (HSm.out.1 h).2.2.2⟩);have hl1:=HO1.out;have hl2:=HO2.out;clear HAk HBk hstk hl1 hl2;go_wp2_with fail
      refine HEv.out.mono ?_;rintro e w8 ⟨rfl,hb8⟩;have HB8:=Nc (HWr.out.trans (hb8.mono HWr.out.size));clear hb8;go_wp2_with fail
      go_ret
      exact⟨⟨_,rfl,HTrue.out⟩,HB8.out⟩
   ·have hq0:¬ (m1:Int)=(m2:Int):=by omega
    have hq1:((m1:Int)==(m2:Int))=false:=by simpa using hq0
    have hq2:((m1:Int) != (m2:Int))=true:=by simpa using hq0
    have HFalse:=Nc (show ¬ pU X Y from fun hs=>by
     have h:=(HSm.out.1 hs).2.2.1;have h1:=HF.out.2.2.1;rw[h,HF.out.2.2.2] at h1;exact e3 h1.symm)
    subst e2;go_wp2_with (first
     | refine wpList_load_mid rfl 36 _ rfl a 0 rfl (stX A) _ RA.out Tryz.underlying36 rfl iI ?_
     | refine wpList_load_mid rfl 36 _ rfl b 0 rfl (stX B) _ RB.out Tryz.underlying36 rfl iI ?_)
    go_ret
    exact⟨⟨false,rfl,⟨fun h=>by simp at h,fun h=>absurd h HFalse.out⟩⟩,HB7.out⟩
  ·have hq3:decide (r1=r2)=false:=decide_eq_false e2
   have hq2:=(Dk hq3).2;have HFalse:=Nc (show ¬ pU X Y from fun hs=>by
    have h:=(HSm.out.1 hs).2.1;exact e2 (HF.out.1.symm.trans (h.trans HF.out.2.1)))
   go_wp2_with (first
    | refine wpList_load_mid rfl 36 _ rfl a 0 rfl (stX A) _ RA.out Tryz.underlying36 rfl iI ?_
    | refine wpList_load_mid rfl 36 _ rfl b 0 rfl (stX B) _ RB.out Tryz.underlying36 rfl iI ?_)
   go_ret
   exact⟨⟨false,rfl,⟨fun h=>by simp at h,fun h=>absurd h HFalse.out⟩⟩,HB7.out⟩
 ·have e1':=decide_eq_false e1
  have HFalse:=Nc (show ¬ pU X Y from fun hs=>e1 (HSm.out.1 hs).1);go_wp2_with (first
   | refine wpList_load_mid rfl 36 _ rfl a 0 rfl (stX A) _ RA.out Tryz.underlying36 rfl iI ?_
   | refine wpList_load_mid rfl 36 _ rfl b 0 rfl (stX B) _ RB.out Tryz.underlying36 rfl iI ?_)
  go_ret
  exact⟨⟨false,rfl,⟨fun h=>by simp at h,fun h=>absurd h HFalse.out⟩⟩,HB7.out⟩
end Go.Proofs.YthkcloapiefggaaGreatDoor
