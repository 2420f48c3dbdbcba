import Derived.Test.YthkcloapiefggaaGreatDoorQExc
import Derived.Test.YthkcloapiefggaaGreatDoorQFch
import Derived.Test.YthkcloapiefggaaGreatDoorQAgr
import Derived.Test.YthkcloapiefggaaGreatDoorQBrn
namespace Go.Proofs.YthkcloapiefggaaGreatDoor
set_option linter.unusedVariables false
set_option linter.unusedSimpArgs false
set_option maxRecDepth 100000
set_option maxHeartbeats 1000000
open Go.ChangeShapes Go.WideShapes Go.RowKit
theorem zZ{op:Int}(h:known op=true):(0≤op∧op≤5)∨(16≤op∧op≤19)∨(20≤op∧op≤21)∨(32≤op∧op≤46)∨(48≤op∧op≤62)∨(64≤op∧op≤78)∨(80≤op∧op≤83)∨(88≤op∧op≤91)∨(84≤op∧op≤87)∨(96≤op∧op≤109)∨(112≤op∧op≤125)∨(128≤op∧op≤128)∨(129≤op∧op≤130)∨(131≤op∧op≤132)∨(133≤op∧op≤133)∨(134≤op∧op≤134)∨(144≤op∧op≤144)∨(145≤op∧op≤145)∨(146≤op∧op≤147)∨(150≤op∧op≤150)∨(160≤op∧op≤161)∨(162≤op∧op≤163):=by
 unfold known lq at h;obtain⟨k,hk⟩:=Option.isSome_iff_exists.1 h;have hm:=List.mem_range.1 (List.mem_of_find?_eq_some hk);have hp:=List.find?_some hk;unfold nU at hp;simp only[decide_eq_true_eq] at hp;rcases ik hm with rfl|rfl|rfl|rfl|rfl|rfl|rfl|rfl|rfl|rfl|rfl|rfl|rfl|rfl|rfl|rfl|rfl|rfl|rfl|rfl|rfl|rfl;all_goals
  simp[R,kX] at hp;omega
theorem GI{t:ByteArray}(h:fE t=0):InD (fD t)∧known (fD t).op=true∧0≤(fD t).sz∧(fD t).sz < 256:=by
 obtain⟨h0,_,h2,_,h3⟩:=y8 h;have hk:=(D6 h).2.1;have hok:=D7 t;have hv:rV (fD t)=true:=by rw[← valid_eq _ hok];simp[je,h0]
 obtain⟨_,_,hd,hs,hb⟩:=pF _ hok hv;have hz:=oD (ba t 0);exact⟨⟨hok,hd.1,hd.2,hs.1,hs.2,hb.1,hb.2⟩,h3▸hk,by rw[h2];exact hz.1,by rw[h2];exact hz.2⟩
theorem wH{I:Im}{S:Ms}{i:Ins}(h:dI I S= .ok i):InD i∧known i.op=true∧0≤i.sz∧i.sz < 256:=by
 unfold dI at h
 split at h
 ·cases h
 split at h
 ·cases h
 split at h
 ·cases h
 split at h
 ·cases h
 split at h
 ·rename_i hd
  cases h;exact GI hd
 ·cases h
theorem sF{op:Int}(h:known op=true):(96≤op∧op≤125)∨((18≤op∧op≤19)∨(32≤op∧op≤46))∨((48≤op∧op≤62)∨(64≤op∧op≤78))∨op=0∨op=80∨op=88∨op=84∨op=81∨op=89∨op=85∨op=82∨op=90∨op=86∨op=83∨op=91∨op=87∨op=150∨op=146∨op=147∨op=16∨op=17∨op=20∨op=5∨op=21∨op=160∨op=161∨op=162∨op=163∨op=128∨op=129∨op=130∨op=131∨op=132∨op=1∨op=134∨op=2∨op=133∨op=144∨op=3∨op=4∨op=145:=by
 have:=zZ h;omega
theorem wI(E:Env)(ov:Value)(S:Ms)(i:Ins)(w:World)(h:Mc E ov S w)(hz:Opz E)(hi:InD i)(hk:known i.op=true)(hl:iK S.out):
  Calls Tryz.prog 63 #[.pointer (some ⟨E.b,0,none⟩),dN i] w fun e w'=>aY E ov S w (exP E.I E.T i S) e w':=by
 obtain⟨k,hk1,hk2⟩:∃ k:Nat,i.d=k∧k < 8:=⟨i.d.toNat,by have:=hi.d0;omega,by have:=hi.d1;have:=hi.d0;omega⟩;obtain⟨j,hj1,hj2⟩:∃ j:Nat,i.s=j∧j < 8:=⟨i.s.toNat,by have:=hi.s0;omega,by have:=hi.s1;have:=hi.s0;omega⟩;have hm:U16 i.im:=⟨hi.ok.m0,hi.ok.m1⟩;obtain⟨op,d,s,im,ax,bk,sz⟩:=i;simp only at hk hk1 hj1 hm;subst hk1 hj1;unfold dN;rcases sF hk with c|c|c|rfl|rfl|rfl|rfl|rfl|rfl|rfl|rfl|rfl|rfl|rfl|rfl|rfl|rfl|rfl|rfl|rfl|rfl|rfl|rfl|rfl|rfl|rfl|rfl|rfl|rfl|rfl|rfl|rfl|rfl|rfl|rfl|rfl|rfl|rfl|rfl|rfl|rfl
 ·exact Gt E ov S op k j im ax bk sz w h hz hk2 hm c
 ·exact Gq E ov S op k j im ax bk sz w h hz hk2 hj2 hm c
 ·exact Gs E ov S op k j im ax bk sz w h hz hk2 hj2 hm c
 ·exact KX E ov S k j im ax bk sz w h hk2 hi hl
 ·exact bT E ov S _ _ (by simp) k j im ax bk sz _ w h fun V H=>(yj 80 (.inl rfl) E ov S k j im ax bk sz V H hk2 hi).mono fun e w' hp=>aY.of hp
 ·exact bT E ov S _ _ (by simp) k j im ax bk sz _ w h fun V H=>(yj 88 (.inr (.inr rfl)) E ov S k j im ax bk sz V H hk2 hi).mono fun e w' hp=>aY.of hp
 ·exact bT E ov S _ _ (by simp) k j im ax bk sz _ w h fun V H=>(yj 84 (.inr (.inl rfl)) E ov S k j im ax bk sz V H hk2 hi).mono fun e w' hp=>aY.of hp
 ·exact bT E ov S _ _ (by simp) k j im ax bk sz _ w h fun V H=>(yl 81 (.inl rfl) E ov S k j im ax bk sz V H hk2 hi).mono fun e w' hp=>aY.of hp
 ·exact bT E ov S _ _ (by simp) k j im ax bk sz _ w h fun V H=>(yl 89 (.inr (.inr rfl)) E ov S k j im ax bk sz V H hk2 hi).mono fun e w' hp=>aY.of hp
 ·exact bT E ov S _ _ (by simp) k j im ax bk sz _ w h fun V H=>(yl 85 (.inr (.inl rfl)) E ov S k j im ax bk sz V H hk2 hi).mono fun e w' hp=>aY.of hp
 ·exact bT E ov S _ _ (by simp) k j im ax bk sz _ w h fun V H=>(yg 82 (.inl rfl) E ov S k j im ax bk sz V H hk2 hi).mono fun e w' hp=>aY.of hp
 ·exact bT E ov S _ _ (by simp) k j im ax bk sz _ w h fun V H=>(yg 90 (.inr (.inr rfl)) E ov S k j im ax bk sz V H hk2 hi).mono fun e w' hp=>aY.of hp
 ·exact bT E ov S _ _ (by simp) k j im ax bk sz _ w h fun V H=>(yg 86 (.inr (.inl rfl)) E ov S k j im ax bk sz V H hk2 hi).mono fun e w' hp=>aY.of hp
 ·exact bT E ov S _ _ (by simp) k j im ax bk sz _ w h fun V H=>(yh 83 (.inl rfl) E ov S k j im ax bk sz V H hk2 hi).mono fun e w' hp=>aY.of hp
 ·exact bT E ov S _ _ (by simp) k j im ax bk sz _ w h fun V H=>(yh 91 (.inr (.inr rfl)) E ov S k j im ax bk sz V H hk2 hi).mono fun e w' hp=>aY.of hp
 ·exact bT E ov S _ _ (by simp) k j im ax bk sz _ w h fun V H=>(yh 87 (.inr (.inl rfl)) E ov S k j im ax bk sz V H hk2 hi).mono fun e w' hp=>aY.of hp
 ·exact bT E ov S _ _ (by simp) k j im ax bk sz _ w h fun V H=>(GU E ov S k j im ax bk sz V H hk2 hi).mono fun e w' hp=>aY.of hp
 ·exact bT E ov S _ _ (by simp) k j im ax bk sz _ w h fun V H=>(GX E ov S k j im ax bk sz V H hk2 hi).mono fun e w' hp=>aY.of hp
 ·exact bT E ov S _ _ (by simp) k j im ax bk sz _ w h fun V H=>(GV E ov S k j im ax bk sz V H hk2 hi).mono fun e w' hp=>aY.of hp
 ·exact bT E ov S _ _ (by simp) k j im ax bk sz _ w h fun V H=>(Ih E ov S k j im ax bk sz V H hk2 hm).mono fun e w' hp=>aY.of hp
 ·exact bT E ov S _ _ (by simp) k j im ax bk sz _ w h fun V H=>(Ig E ov S k j im ax bk sz V H hk2 hm).mono fun e w' hp=>aY.of hp
 ·exact bT E ov S _ _ (by simp) k j im ax bk sz _ w h fun V H=>(Ie E ov S k j im ax bk sz V H hk2 hm).mono fun e w' hp=>aY.of hp
 ·exact bT E ov S _ _ (by simp) k j im ax bk sz _ w h fun V H=>(JC E ov S k j im ax bk sz V H hk2 hm).mono fun e w' hp=>aY.of hp
 ·exact bT E ov S _ _ (by simp) k j im ax bk sz _ w h fun V H=>(Ic E ov S k j im ax bk sz V H hk2 hm).mono fun e w' hp=>aY.of hp
 ·exact bT E ov S _ _ (by simp) k j im ax bk sz _ w h fun V H=>(EJ E ov S k j im ax bk sz V H hk2 hm).mono fun e w' hp=>aY.of hp
 ·exact bT E ov S _ _ (by simp) k j im ax bk sz _ w h fun V H=>(EI E ov S k j im ax bk sz V H hk2 hm).mono fun e w' hp=>aY.of hp
 ·exact bT E ov S _ _ (by simp) k j im ax bk sz _ w h fun V H=>(EH E ov S k j im ax bk sz V H hk2 hm).mono fun e w' hp=>aY.of hp
 ·exact bT E ov S _ _ (by simp) k j im ax bk sz _ w h fun V H=>(EG E ov S k j im ax bk sz V H hk2 hm).mono fun e w' hp=>aY.of hp
 ·exact bT E ov S _ _ (by simp) k j im ax bk sz _ w h fun V H=>(Dw E ov S k j im ax bk sz V H hk2 hm ⟨hi.ok.a0,hi.ok.a1⟩).mono fun e w' hp=>aY.of hp
 ·exact bT E ov S _ _ (by simp) k j im ax bk sz _ w h fun V H=>(Dv E ov S k j im ax bk sz V H hk2 hm ⟨hi.ok.a0,hi.ok.a1⟩).mono fun e w' hp=>aY.of hp
 ·exact bT E ov S _ _ (by simp) k j im ax bk sz _ w h fun V H=>(Du E ov S k j im ax bk sz V H hk2 hm ⟨hi.ok.a0,hi.ok.a1⟩).mono fun e w' hp=>aY.of hp
 ·exact bT E ov S _ _ (by simp) k j im ax bk sz _ w h fun V H=>(Dt E ov S k j im ax bk sz V H hk2 hm ⟨hi.ok.a0,hi.ok.a1⟩).mono fun e w' hp=>aY.of hp
 ·exact bT E ov S _ _ (by simp) k j im ax bk sz _ w h fun V H=>(Dq E ov S k j im ax bk sz V H hk2 hm ⟨hi.ok.a0,hi.ok.a1⟩).mono fun e w' hp=>aY.of hp
 ·exact bT E ov S _ _ (by simp) k j im ax bk sz _ w h fun V H=>(IZ E ov S k j im ax bk sz V H hk2 hm ⟨hi.ok.a0,hi.ok.a1⟩).mono fun e w' hp=>aY.of hp
 ·exact bT E ov S _ _ (by simp) k j im ax bk sz _ w h fun V H=>(Dn E ov S k j im ax bk sz V H hk2 hm ⟨hi.ok.a0,hi.ok.a1⟩).mono fun e w' hp=>aY.of hp
 ·exact bT E ov S _ _ (by simp) k j im ax bk sz _ w h fun V H=>(IY E ov S k j im ax bk sz V H hk2 hm ⟨hi.ok.a0,hi.ok.a1⟩).mono fun e w' hp=>aY.of hp
 ·exact bT E ov S _ _ (by simp) k j im ax bk sz _ w h fun V H=>(Dp E ov S k j im ax bk sz V H hk2 hm ⟨hi.ok.a0,hi.ok.a1⟩ hi.b0 hi.b1).mono fun e w' hp=>aY.of hp
 ·exact bT E ov S _ _ (by simp) k j im ax bk sz _ w h fun V H=>(Ec E ov S k j im ax bk sz V H hk2 hm).mono fun e w' hp=>aY.of hp
 ·exact bT E ov S _ _ (by simp) k j im ax bk sz _ w h fun V H=>(Jl E ov S k j im ax bk sz V H hk2 hm).mono fun e w' hp=>aY.of hp
 ·exact bT E ov S _ _ (by simp) k j im ax bk sz _ w h fun V H=>(Jk E ov S k j im ax bk sz V H hk2 hm).mono fun e w' hp=>aY.of hp
 ·exact bT E ov S _ _ (by simp) k j im ax bk sz _ w h fun V H=>Eb E ov S k j im ax bk sz V H hk2 hm hl
theorem aY.next{E:Env}{ov:Value}{S:Ms}{i:Ins}{w W w':World}{R:Rs}{e:Ending}(h:aY E ov (kC S i) W R e w')(hg:w.grownBy W (some E.b)):aY E ov S w R e w':=by
 have h1:=h.pre hg;cases R with
 | ok S'=>exact h1
 | tr k n=>obtain⟨h0,S',h2,h3,h4⟩:=h1;exact⟨h0,S',h2,⟨h3.ram,h3.out,h3.stk⟩,h4⟩
theorem pJ{I:Im}{T:Tp}{S:Ms}{k n:Int}(h:dI I S= .tr k n):eQ I T S= .tr k n:=by unfold eQ;rw[h]
theorem uZ{I:Im}{T:Tp}{S:Ms}{i:Ins}(h:dI I S= .ok i):eQ I T S=exP I T i (kC S i):=by unfold eQ;rw[h]
set_option maxHeartbeats 4000000 in
theorem Bj(E:Env)(ov:Value)(S:Ms)(w:World)(h:Mc E ov S w)(hz:Opz E)(hl:iK S.out):
  Calls Tryz.prog 40 #[.pointer (some ⟨E.b,0,none⟩)] w fun e w'=>aY E ov S w (eQ E.I E.T S) e w':=by
 have H:=Nc h;have HL:=Nc hl;have HZ:=Nc hz;have c15:=h.c15;obtain⟨p0,p1⟩:=h.ok.pc;by_cases hp:S.pc=65535
 ·have hX:dI E.I S= .tr 6 0:=by unfold dI;rw[if_pos hp]
  have HX:=Nc (pJ (T:=E.T) hX);rw[hp] at c15;clear h hp hX p0 p1 hz hl;go_enter Tryz.func40,Tryz.ntmps40
  go_wp2_with fail
  refine(bH _ _ _).mono ?_;rintro e w' ⟨rfl,rfl⟩;go_wp2_with fail
  exact⟨rfl,by rw[HX.out];exact⟨rfl,S,H.out,Kp.refl S,Fro.gb ov (ah w _)⟩⟩
 have HFe:=Nc (fetch_any E ov S w h hp);obtain⟨X,hX⟩:∃ X,dI E.I S=X:=⟨_,rfl⟩;rw[hX] at HFe;have HXX:=Nc hX;obtain⟨p,hpp⟩:∃ p,S.pc=p:=⟨_,rfl⟩;rw[hpp] at c15 hp p0 p1;have HPP:=Nc hpp;have hpb:(p != 65535)=true:=by simpa using hp
 clear h hX hpp hz hl hp;go_enter Tryz.func40,Tryz.ntmps40
 go_wp2_with fail
 refine(dw _ _ _).mono ?_;rintro e w' ⟨rfl,rfl⟩;go_wp2_with fail
 refine HFe.out.mono ?_;rintro e w1 ⟨hfp,hb1⟩;cases X with
 | tr k n=>
  have he:e= .panicked (dQ k n):=hfp;subst he;have HX:=Nc (pJ (T:=E.T) HXX.out);have HB:=Nc hb1;clear hb1 hfp c15 hpb;go_wp2_with fail
  exact⟨rfl,by rw[HX.out];exact⟨rfl,S,H.out.kept HB.out,Kp.refl S,Fro.gb ov (ak (ah w _) HB.out)⟩⟩
 | ok i=>
  have he:e= .returned (dN i):=hfp;subst he;obtain⟨hi,hkn,z0,z1⟩:=wH HXX.out;have HX:=Nc (uZ (T:=E.T) HXX.out);have HI:=Nc (And.intro hi hkn);have HN:=Nc (show kC S i={S with steps:=IntKind.i64.wrap (S.steps+1),pc:=(S.pc+i.sz)%65536} from rfl);have H1:=H.out.kept hb1;have HG1:=ak (ah w (some E.b)) hb1;clear hb1 hfp hi hkn;obtain⟨op,d,s,im,ax,bk,sz⟩:=i;simp only at z0 z1;unfold dN;have hsz:sz%65536=sz:=by omega
  have H2:=H1.alloc (.cells #[.int .i64 op,.int .i64 d,.int .i64 s,.int .u16 im,.int .u16 ax,.int .i64 bk,.int .i64 sz] 58);have HG1':=Nc HG1;obtain⟨st,hst⟩:∃ st,S.steps=st:=⟨_,rfl⟩;have c20:=H2.c20;have hf:=H2.frz;rw[hst] at c20;have w64:IntKind.i64.wrap (st+1)=wrap64 (st+1):=IntWalk.i64_left _;have hI:I64 (wrap64 (st+1)):=by unfold wrap64 I64;omega
  have H3:=H1.lT (wrap64 (st+1)) hI;have c15':=(H3.alloc (.cells #[.int .i64 op,.int .i64 d,.int .i64 s,.int .u16 im,.int .u16 ax,.int .i64 bk,.int .i64 sz] 58)).c15;have hf3:=(H3.alloc (.cells #[.int .i64 op,.int .i64 d,.int .i64 s,.int .u16 im,.int .u16 ax,.int .i64 bk,.int .i64 sz] 58)).frz;simp only at c15';rw[HPP.out] at c15';have H4:=H3.dF ((p+sz)%65536) (dU _);have HNe:kC S ⟨op,d,s,im,ax,bk,sz⟩={S with steps:=wrap64 (st+1),pc:=(p+sz)%65536}:=by rw[HN.out,hst,HPP.out,w64]
  have H5:=Nc (show Mc E ov (kC S ⟨op,d,s,im,ax,bk,sz⟩) ((((w1.setCell ⟨E.b,20,none⟩ (.int .i64 (wrap64 (st+1)))).setCell ⟨E.b,15,none⟩ (.int .u16 ((p+sz)%65536))).alloc (.cells #[.int .i64 op,.int .i64 d,.int .i64 s,.int .u16 im,.int .u16 ax,.int .i64 bk,.int .i64 sz] 58)).drew) from HNe▸(H4.alloc _).drew);have G5:=Nc (aO (aJ (ag (ag HG1 20 (.int .i64 (wrap64 (st+1)))) 15 (.int .u16 ((p+sz)%65536))) (.cells #[.int .i64 op,.int .i64 d,.int .i64 s,.int .u16 im,.int .u16 ax,.int .i64 bk,.int .i64 sz] 58)));have hsz4:((w1.setCell ⟨E.b,20,none⟩ (.int .i64 (wrap64 (st+1)))).setCell ⟨E.b,15,none⟩ (.int .u16 ((p+sz)%65536))).heap.size=w1.heap.size:=by simp
  have n3:=(aG ((w1.setCell ⟨E.b,20,none⟩ (.int .i64 (wrap64 (st+1))))) op d s im ax bk sz).2.2.2.2.2.2;have n5:=Nc (aG ((w1.setCell ⟨E.b,20,none⟩ (.int .i64 (wrap64 (st+1)))).setCell ⟨E.b,15,none⟩ (.int .u16 ((p+sz)%65536))) op d s im ax bk sz);rw[hsz4] at n5;rw[show(w1.setCell ⟨E.b,20,none⟩ (.int .i64 (wrap64 (st+1)))).heap.size=w1.heap.size by simp] at n3;have hlt1:=H1.lt;have hne1:E.b≠w1.heap.size:=by omega
  have hw:IntKind.u16.wrap (p+sz)=(p+sz)%65536:=IntKind.wrap_u16 _;clear H1 HG1 H2 c15 hst HNe H3 H4 hsz4 w64 hI;go_wp2_with fail
  clear c20 hf;go_region
  go_wp2_with fail
  have HEx:=Nc (wI E ov (kC S ⟨op,d,s,im,ax,bk,sz⟩) ⟨op,d,s,im,ax,bk,sz⟩ _ H5.out HZ.out HI.out.1 HI.out.2 HL.out);refine HEx.out.mono ?_;rintro e w2 hp2;have hq:=hp2.next G5.out;rw[← HX.out] at hq;clear hp2;obtain⟨r,hr⟩:∃ r,eQ E.I E.T S=r:=⟨_,rfl⟩;rw[hr] at hq;have HR:=Nc hr;clear hr c15' hf3 n3 hne1 hlt1;cases r with
  | ok S'=>
   obtain⟨rfl,hq⟩:=hq;have HQ:=Nc hq;clear hq;go_wp2_with fail
   go_end0
   exact by rw[HR.out];exact⟨rfl,HQ.out⟩
  | tr t x=>
   obtain⟨rfl,hq⟩:=hq;have HQ:=Nc hq;clear hq;go_wp2_with fail
   exact⟨rfl,by rw[HR.out];exact⟨rfl,HQ.out⟩⟩
def PostT(E:Env)(ov:Value)(S:Ms)(w:World)(R:Rs)(e:Ending)(w':World):Prop:=
 match R with
 | .ok S'=>e= .returned (iL 0 0)∧∃ ov',Mc E ov' S' w'∧Fro E ov w ov' w'
 | .tr k i=>e= .returned (iL k i)∧∃ S',Mc E ov S' w'∧Eqv S S'∧Fro E ov w ov w'
theorem Mc.oz{E:Env}{ov:Value}{S:Ms}{w:World}(h:Mc E ov S w):w.rangeAt E.b 7 (stC S):=fun j v hv=>by
 have hj:j < 16:=by
  have:=(List.getElem?_eq_some_iff.1 hv).1;simpa [stC] using this
 refine h.hd (7+j) v (by omega) ?_;rw[← hv]
 rcases(show j=0∨j=1∨j=2∨j=3∨j=4∨j=5∨j=6∨j=7∨j=8∨j=9∨j=10∨j=11∨j=12∨j=13∨j=14∨j=15 by omega) with rfl|rfl|rfl|rfl|rfl|rfl|rfl|rfl|rfl|rfl|rfl|rfl|rfl|rfl|rfl|rfl<;>rfl
def zSt:Array Value:=#[.int .u16 0,.int .u16 0,.int .u16 0,.int .u16 0,.int .u16 0,.int .u16 0,.int .u16 0,.int .u16 0,.int .u16 0,.int .u16 0,.int .u16 0,.int .u16 0,.int .i64 0,.int .i64 0,.int .i64 0,.int .i64 0]
structure MZ(E:Env)(S:Ms)(n:Nat)(w W:World):Prop where
 hm:W.heap[n]? =some (.cells #[.pointer (some ⟨E.b,0,none⟩)] 87 (0,0))
 ht:W.heap[n+1]? =some (.cells #[.int .i64 0,.int .u16 0] 47 (0,0))
 hb:W.heap[n+2]? =some (.cells (stC S).toArray 36 (0,0))
 bel:Below n w W
 size:W.heap.size=n+3
theorem LU(E:Env)(S:Ms)(w:World):MZ E S w.heap.size w ((((w.alloc (.cells #[.pointer (some ⟨E.b,0,none⟩)] 87)).alloc (.cells #[.int .i64 0,.int .u16 0] 47)).alloc (.cells zSt 36)).setRow (w.heap.size+2) (stC S).toArray):=by
 have h0:=heap_alloc_new w (.cells #[.pointer (some ⟨E.b,0,none⟩)] 87);have h1:=heap_alloc_new (w.alloc (.cells #[.pointer (some ⟨E.b,0,none⟩)] 87)) (.cells #[.int .i64 0,.int .u16 0] 47);obtain⟨g1,g2,g3⟩:=yz ((w.alloc (.cells #[.pointer (some ⟨E.b,0,none⟩)] 87)).alloc (.cells #[.int .i64 0,.int .u16 0] 47)) zSt (stC S).toArray 36;have hz:((w.alloc (.cells #[.pointer (some ⟨E.b,0,none⟩)] 87)).alloc (.cells #[.int .i64 0,.int .u16 0] 47)).heap.size=w.heap.size+2:=by simp
 have hB:Below w.heap.size w ((w.alloc (.cells #[.pointer (some ⟨E.b,0,none⟩)] 87)).alloc (.cells #[.int .i64 0,.int .u16 0] 47)):=((Below.refl _ w).alloc (Nat.le_refl _) _).alloc (by simp) _;have h0':=aj _ (.cells #[.int .i64 0,.int .u16 0] 47) _ h0;simp only[World.size_alloc] at h1;rw[hz] at g1 g2 g3;exact⟨(g2.block _ (by omega)).trans h0',(g2.block _ (by omega)).trans h1,g1,hB.trans (g2.mono (by omega)),g3⟩
theorem Fro.pre{E:Env}{ov ov':Value}{w W w':World}(hb:Below w.heap.size w W)(g:Fro E ov W ov' w'):Fro E ov w ov' w':=
 (Fro.gb ov (ak (ah w _) hb)).trans g
set_option maxHeartbeats 4000000 in
theorem ni(E:Env)(ov:Value)(S:Ms)(w:World)(h:Mc E ov S w)(hz:Opz E)(hl:iK S.out):
  Calls Tryz.prog 39 #[.pointer (some ⟨E.b,0,none⟩),.func (.func 40) #[.pointer (some ⟨E.b,0,none⟩)] #[]] w fun e w'=>PostT E ov S w (eQ E.I E.T S) e w':=by
 have hlt:=h.lt;have hi0:=h.env.b;have L:=LU E S w;have hmf:∀ (fn:Fn) (first cap:Array Value) (w:World),(Instr.makeFunc fn first cap).run Tryz.prog w= .ok (.func fn first cap) w:=fun _ _ _ _=>rfl
 have hr:=((h.alloc (.cells #[.pointer (some ⟨E.b,0,none⟩)] 87)).alloc (.cells #[.int .i64 0,.int .u16 0] 47)).oz;have HR:=Nc hr;have HZW:Hid (((w.alloc (.cells #[.pointer (some ⟨E.b,0,none⟩)] 87)).alloc (.cells #[.int .i64 0,.int .u16 0] 47)).heap.size=w.heap.size+2):=Nc (by simp);have HNew:=Nc (heap_alloc_new ((w.alloc (.cells #[.pointer (some ⟨E.b,0,none⟩)] 87)).alloc (.cells #[.int .i64 0,.int .u16 0] 47)) (.cells zSt 36));rw[HZW.out] at HNew;have HL:=Nc L;have H3:=Nc (h.kept L.bel);have HRow:=Nc h.BG;have HOk:=Nc h.ok;have HI:=Nc hi0;have HLT:=Nc hlt;have HC:=Nc (fun W (hW:Mc E ov S W)=>Bj E ov S W hW hz hl);clear hz hl;clear h L hr hi0 hlt;go_enter_defers Tryz.func39,Tryz.ntmps39
 go_wp2_with (first
  | refine wpList_load_mid rfl 36 _ rfl E.b 7 rfl (stC S) _ HR.out Tryz.underlying36 rfl iP ?_
  | refine wpList_store_row rfl 36 _ _ rfl (w.heap.size+2) (stC S).toArray rfl rfl 36 zSt HNew.out iP (by rfl) (CU S) ?_)
 have hzS:zSt=#[.int .u16 0,.int .u16 0,.int .u16 0,.int .u16 0,.int .u16 0,.int .u16 0,.int .u16 0,.int .u16 0,.int .u16 0,.int .u16 0,.int .u16 0,.int .u16 0,.int .i64 0,.int .i64 0,.int .i64 0,.int .i64 0]:=rfl;rw[hzS] at HL H3;obtain⟨W3,hW3⟩:∃ W3,((((w.alloc (.cells #[.pointer (some ⟨E.b,0,none⟩)] 87)).alloc (.cells #[.int .i64 0,.int .u16 0] 47)).alloc (.cells #[.int .u16 0,.int .u16 0,.int .u16 0,.int .u16 0,.int .u16 0,.int .u16 0,.int .u16 0,.int .u16 0,.int .u16 0,.int .u16 0,.int .u16 0,.int .u16 0,.int .i64 0,.int .i64 0,.int .i64 0,.int .i64 0] 36)).setRow (w.heap.size+2) (stC S).toArray)=W3:=⟨_,rfl⟩;rw[hW3] at HL H3;rw[hW3];obtain⟨n,hn⟩:∃ n,w.heap.size=n:=⟨_,rfl⟩;have HN:=Nc hn;rw[hn] at HL HRow HLT;rw[hn];rw[show n+1+1=n+2 from rfl];have hcall:=HC.out W3 H3.out;clear hzS hW3 hn HNew HZW HR;obtain⟨r,hr⟩:∃ r,eQ E.I E.T S=r:=⟨_,rfl⟩;rw[hr] at hcall;have HRe:=Nc hr;clear hr HC;refine hcall.mono ?_;clear hcall;rintro e w4 hp;have hr0:rowOf ov≠some n:=fun c=>by have:=HRow.out _ c;omega
 have hr1:rowOf ov≠some (n+1):=fun c=>by have:=HRow.out _ c;omega
 have hr2:rowOf ov≠some (n+2):=fun c=>by have:=HRow.out _ c;omega
 have e0:n≠E.b:=by have:=HLT.out;omega
 have e1:n+1≠E.b:=by have:=HLT.out;omega
 have e2:n+2≠E.b:=by have:=HLT.out;omega
 have hi1:E.hi≤n+1:=by have:=HLT.out;have:=HI.out;omega
 have s3:=HL.out.size;have HE0:=Nc (And.intro e0 (And.intro e1 e2));have HHi:=Nc hi1;have hBel:Below w.heap.size w W3:=by rw[HN.out];exact HL.out.bel
 have HBel:=Nc hBel;cases r with
 | ok S'=>
  obtain⟨rfl,ov1,hm1,hf1⟩:=hp;have hm4:=(hf1.blk n (by omega) e0 hr0).trans HL.out.hm;have ht4:=(hf1.blk (n+1) (by omega) e1 hr1).trans HL.out.ht;have hb4:=(hf1.blk (n+2) (by omega) e2 hr2).trans HL.out.hb;have hr':rowOf ov1≠some (n+1):=by
   rcases hf1.new with q|q
   ·rw[q];exact hr1
   ·intro c;have:=q _ c;omega
  have z0:=ae ht4 0 _ rfl;have z1:=ae ht4 1 _ rfl;have fz:=fun j=>frozen_of_row w4 (n+1) j _ _ ht4
  have G5:=ag (ag (ah w4 (some (n+1))) 0 (.int .i64 0)) 1 (.int .u16 0);have S5:=set2 ht4 (.int .i64 0) (.int .u16 0);have M5:=Nc (hm1.other G5 hi1 e1 hr');have F5:Fro E ov w ov1 ((w4.setCell ⟨n+1,0,none⟩ (.int .i64 0)).setCell ⟨n+1,1,none⟩ (.int .u16 0)):=by
   have hp1:=Fro.pre hBel hf1;refine⟨Nat.le_trans hp1.size G5.size,fun k hk hne hro=>(G5.block k (Nat.lt_of_lt_of_le hk hp1.size) (by simp;have:=HN.out;omega)).trans (hp1.blk k hk hne hro),hp1.new⟩
  have HF5:=Nc F5;have HS5:=Nc S5;clear hm1 hf1 hm4 hb4 G5 S5 F5 hr' hBel ht4 hr0 hr1 hr2 e0 e1 e2 hi1 s3;go_wp2_with fail
  clear z0 z1 fz;obtain⟨W5,hW5⟩:∃ W5,(w4.setCell ⟨n+1,0,none⟩ (.int .i64 0)).setCell ⟨n+1,1,none⟩ (.int .u16 0)=W5:=⟨_,rfl⟩;rw[hW5] at M5 HF5 HS5;rw[hW5];clear hW5;refine leaves_cons (f:=60) (args:=#[.pointer (some ⟨n+2,0,none⟩),.pointer (some ⟨n,0,none⟩),.pointer (some ⟨n+1,0,none⟩)]) (by simp) (by simp[go_sem]) ?_;refine(catch_idle _ _ _ _).mono ?_;rintro e u' w6 ⟨rfl,rfl,hb⟩;have M6:=Nc (M5.out.kept hb);have F6:=Nc (HF5.out.trans (Fro.gb ov1 (ak (ah W5 _) hb)));have S6:=af HS5.out hb;have y0:=ae S6 0 _ rfl;have y1:=ae S6 1 _ rfl;clear S6 hb;simp[Leaves,settle,results,Tryz.results39,go_sem,y0,y1];rw[HRe.out];exact⟨rfl,ov1,M6.out,F6.out⟩
 | tr t x=>
  obtain⟨rfl,S',hm1,hk1,hf1⟩:=hp;have hm4:=(hf1.blk n (by omega) e0 hr0).trans HL.out.hm;have ht4:=(hf1.blk (n+1) (by omega) e1 hr1).trans HL.out.ht;have hb4:=(hf1.blk (n+2) (by omega) e2 hr2).trans HL.out.hb;have HM4:=Nc hm1;have HK1:=Nc hk1;have HB4:=Nc (And.intro hm4 (And.intro ht4 hb4));have HP1:=Nc (Fro.pre hBel hf1);have HRr:=Nc hr1;clear hm1 hk1 hf1 hm4 ht4 hb4 hBel hr0 hr1 hr2 e0 e1 e2 hi1 s3;go_wp2_with fail
  refine leaves_cons (f:=60) (args:=#[.pointer (some ⟨n+2,0,none⟩),.pointer (some ⟨n,0,none⟩),.pointer (some ⟨n+1,0,none⟩)]) (by simp) (by simp[go_sem]) ?_;refine(x9 E ov S S' (n+2) n (n+1) _ _ t x [] w4 HM4.out HOk.out HB4.out.2.2 HB4.out.1 HB4.out.2.1 HE0.out.2.2 HE0.out.1 HE0.out.2.1 HHi.out HRr.out (by omega) (by omega)).mono ?_;rintro e u' w6 ⟨rfl,rfl,hm6,ht6,hk6,hs6⟩;have y0:=ae ht6 0 _ rfl;have y1:=ae ht6 1 _ rfl;have M6:=Nc hm6;have F6:Fro E ov w ov w6:=by
   have hp1:=HP1.out;refine⟨Nat.le_trans hp1.size hs6,fun k hk hne hro=>(hk6 k (Nat.lt_of_lt_of_le hk hp1.size) hne (by have:=HN.out;omega)).trans (hp1.blk k hk hne hro),.inl rfl⟩
  have HF6:=Nc F6;clear hm6 ht6 hk6 hs6 F6;simp[Leaves,settle,results,Tryz.results39,go_sem,y0,y1];rw[HRe.out];exact⟨rfl,_,M6.out,CG HK1.out,HF6.out⟩
structure Rok(S:Ms)(R:Rs):Prop where
 out:∀ S',R= .ok S'→S'.out.length≤S.out.length+1
 tr:∀ k i,R= .tr k i→1≤k∧k≤6
theorem Rok.okk{S S':Ms}(h:S'.out=S.out):Rok S (.ok S'):=⟨fun X hX=>(by cases hX;rw[h];omega),fun k i hX=>(by cases hX)⟩
theorem Rok.trr{S:Ms}{k i:Int}(h:1≤k∧k≤6):Rok S (.tr k i):=⟨fun X hX=>(by cases hX),fun k i hX=>(by cases hX;exact h)⟩
theorem Rok.vl{S:Ms}{v:Vl}{f:Int→Ms}(h:∀ k i,v= .tr k i→1≤k∧k≤6)(hf:∀ x,(f x).out=S.out):Rok S (v.to f):=by
 cases v with
 | ok x=>exact Rok.okk (hf x)
 | tr k i=>exact Rok.trr (h k i rfl)
theorem Rok.ite{S:Ms}{c:Prop}[Decidable c]{a b:Rs}(h:Rok S a)(g:Rok S b):Rok S (if c then a else b):=by split<;>assumption
theorem wU(ok:Int→Bool)(val:Int→Int)(a:Int):∀ k i,wdP ok val a= .tr k i→1≤k∧k≤6:=by
 intro k i h;unfold wdP at h;(repeat' split at h)<;>cases h<;>omega
theorem Em(ok:Int→Bool)(val:Int→Int)(a:Int):∀ k i,byP ok val a= .tr k i→1≤k∧k≤6:=by
 intro k i h;unfold byP at h;(repeat' split at h)<;>cases h<;>omega
theorem yB(S:Ms)(a v:Int):Rok S (stW S a v):=by unfold stW;exact .ite (.ite (.okk rfl) (.trr (by omega))) (.trr (by omega))
theorem Fq(S:Ms)(a v:Int):Rok S (stB S a v):=by unfold stB;exact .ite (.okk rfl) (.trr (by omega))
theorem lX(S:Ms)(n:Nat)(f:Ms)(h:f.out=S.out):Rok S (room S n f):=by unfold room;exact .ite (.okk h) (.trr (by omega))
theorem lW(S:Ms)(n:Int)(f:Ms)(h:f.out=S.out):Rok S (cZ S n f):=by unfold cZ;exact .ite (.okk h) (.trr (by omega))
theorem yA(I:Im)(S:Ms)(t n:Int):Rok S (iW I S t n):=by unfold iW;exact .vl (wU _ _ _) (fun _=>rfl)
theorem Fz(I:Im)(S:Ms):Rok S (rE I S):=by
 unfold rE;generalize hX:psh (psh (bJ S) S.f) S.fp=X;have ho:X.out=S.out:=by rw[← hX];rfl
 exact lX S 12 _ ho
theorem BH(I:Im)(T:Tp)(S:Ms):Rok S (mg I T S):=by
 unfold mg;have h:=Fz I {S with pol:=max S.pol 0+1};exact .ite (.okk rfl) (.ite ⟨h.out,h.tr⟩ (.okk rfl))
theorem Fv(S:Ms)(p v:Int):Rok S (.ok (oO S p v)):=by
 refine⟨fun X hX=>?_,fun k i hX=>by cases hX⟩;cases hX;unfold oO
 split
 ·simp
 ·simp
theorem Gj(T:Tp)(S:Ms)(d p:Int):(inP T S d p).out=S.out:=by unfold inP;(repeat' split)<;>rfl
theorem IA(I:Im)(T:Tp)(i:Ins)(S:Ms):Rok S (exP I T i S):=by
 unfold exP;refine .ite (.okk rfl) (.ite (.vl (wU _ _ _) (fun _=>rfl)) (.ite (.vl (Em _ _ _) (fun _=>rfl)) (.ite (yB _ _ _) (.ite (Fq _ _ _) (.ite (yB _ _ _) (.ite (.vl (wU _ _ _) (fun _=>rfl)) (.ite (.vl (Em _ _ _) (fun _=>rfl)) ?_)))))));refine .ite (lX _ _ _ rfl) (.ite (.ite (.okk rfl) (.trr (by omega))) (.ite ?_ (.ite ?_ (.ite ?_ (.ite (lW _ _ _ rfl) (.ite (lW _ _ _ rfl) (.ite (lW _ _ _ rfl) (.ite (lW _ _ _ rfl) ?_))))))))
 ·unfold iG;exact .ite (.okk (wQ _ _)) (.trr (by omega))
 ·unfold iE;exact .ite (.okk rfl) (.trr (by omega))
 ·unfold lu;exact .ite (.okk rfl) (.trr (by omega))
 refine .ite (.okk rfl) (.ite (lX _ _ _ rfl) (.ite (.okk rfl) (.ite (lX _ _ _ rfl) (.ite ?_ (.ite (.ite (yA _ _ _ _) (.okk rfl)) (.ite (yA _ _ _ _) (.ite (.trr (by omega)) (.ite (.okk (Gj _ _ _ _)) (.ite (Fv _ _ _) (.ite (BH _ _ _) (.ite ?_ ?_)))))))))))
 ·unfold oN;exact .ite (.okk rfl) (.trr (by omega))
 ·unfold jP;exact .ite (.okk rfl) (.trr (by omega))
 refine .ite (.okk (by split<;>rfl)) (.ite ?_ ?_)
 ·unfold arP;exact .ite (.trr (by omega)) (.okk rfl)
 ·unfold arP;exact .ite (.trr (by omega)) (.okk rfl)
theorem wG(I:Im)(S:Ms):∀ k i,dI I S= .tr k i→1≤k∧k≤6:=by
 intro k i h;unfold dI at h
 split at h
 ·cases h;omega
 split at h
 ·cases h;omega
 split at h
 ·cases h;omega
 split at h
 ·cases h;omega
 split at h
 ·cases h
 ·cases h;omega
theorem jl(I:Im)(T:Tp)(S:Ms):Rok S (eQ I T S):=by
 cases h:dI I S with
 | ok i=>
  rw[uZ h];have:=IA I T i (kC S i);exact⟨this.out,this.tr⟩
 | tr k n=>rw[pJ h];exact .trr (wG I S k n h)
def PostR(E:Env)(ov:Value)(w:World)(X:Ms × Int × Int)(e:Ending)(w':World):Prop:=
 e= .returned (iL X.2.1 X.2.2)∧∃ ov' S',Mc E ov' S' w'∧Eqv X.1 S'∧Fro E ov w ov' w'
theorem PostR.of{E:Env}{ov ov':Value}{S S':Ms}{k i:Int}{w w':World}{X:Ms × Int × Int}{e:Ending}(hX:X=(S,k,i))(he:e= .returned (iL k i))(hm:Mc E ov' S' w')(hq:Eqv S S')(hf:Fro E ov w ov' w'):PostR E ov w X e w':=by
 subst hX;exact⟨he,ov',S',hm,hq,hf⟩
structure Lr(E:Env)(ov:Value)(S:Ms)(n k:Nat)(W w':World)(ov':Value)(S':Ms):Prop where
 mc:Mc E ov' S' w'
 fro:Fro E ov W ov' w'
 run:eP E.I E.T n S=eP E.I E.T (n-k) S'
 len:S'.out.length+(n-k)≤1000000000
theorem Fro.row{E:Env}{ov ov':Value}{W w':World}{g:Nat}(h:Fro E ov W ov' w')(h0:rowOf ov≠some g)(h1:g < W.heap.size):rowOf ov'≠some g:=by
 rcases h.new with q|q
 ·rw[q];exact h0
 ·intro c;have:=q _ c;omega
set_option maxHeartbeats 4000000 in
theorem run_any(E:Env)(ov:Value)(S:Ms)(m:Int)(w:World)(h:Mc E ov S w)(hz:Opz E)(hm:I64 m)(hl:S.out.length+m.toNat≤1000000000):
  Calls Tryz.prog 34 #[.pointer (some ⟨E.b,0,none⟩),.int .i64 m] w fun e w'=>PostR E ov w (eP E.I E.T m.toNat S) e w':=by
 have hmf:∀ (fn:Fn) (first cap:Array Value) (w:World),(Instr.makeFunc fn first cap).run Tryz.prog w= .ok (.func fn first cap) w:=fun _ _ _ _=>rfl
 obtain⟨n,hn⟩:∃ n,m.toNat=n:=⟨_,rfl⟩;have hkm:∀ k:Nat,((k:Int) < m↔k < n):=fun k=>by omega
 rw[hn] at hl⊢;have hm1:=hm.2;have HZ:=Nc hz;have HKM:=Nc hkm;have H0:Lr E ov S n 0 (w.alloc (.cells #[.int .i64 0,.int .u16 0] 47)) (w.alloc (.cells #[.int .i64 0,.int .u16 0] 47)) ov S:=⟨h.alloc _,Fro.gb ov (ah _ _),rfl,by omega⟩;have HH:=Nc H0;have HRow:=Nc h.BG;have HLT:=Nc h.lt;have HHI:=Nc h.env.b;have HM:=Nc (show m≤9223372036854775807 from hm1);have HMN:=Nc hn;have HBx:=Nc (heap_alloc_new w (.cells #[.int .i64 0,.int .u16 0] 47));have HSz:Hid ((w.alloc (.cells #[.int .i64 0,.int .u16 0] 47)).heap.size=w.heap.size+1):=Nc (by simp);have HB0:=Nc ((Below.refl _ w).alloc (Nat.le_refl _) (.cells #[.int .i64 0,.int .u16 0] 47));clear h hz hm hl hn hkm H0 hm1;go_enter Tryz.func34,Tryz.ntmps34
 go_wp2_with fail
 obtain⟨W0,hW0⟩:∃ W0,w.alloc (.cells #[.int .i64 0,.int .u16 0] 47)=W0:=⟨_,rfl⟩;rw[hW0] at HH HBx HSz HB0
 try rw[hW0]
 obtain⟨rb,hrb⟩:∃ rb,w.heap.size=rb:=⟨_,rfl⟩;rw[hrb] at HBx HSz HRow HLT
 try rw[hrb]
 have HRB:=Nc hrb;have hr0:rowOf ov≠some rb:=fun c=>by have:=HRow.out _ c;omega
 have HR0:=Nc hr0;clear hW0 hrb hr0;go_loopw [10] (fun i wr=>∃ (k:Nat) (ov':Value) (S':Ms),k≤n∧i= .int .i64 k∧Hid (Lr E ov S n k W0 wr ov' S')) (fun i _=>n-(intOf i).toNat)
 case atStart=>exact⟨0,ov,S,Nat.zero_le _,rfl,HH⟩
 case round=>
  obtain⟨k,ov',S',hk,rfl,HK⟩:=hrel;by_cases hlt:k < n
  ·have hlt':(k:Int) < m:=(HKM.out k).2 hlt
   have hkb:(k:Int)+1≤9223372036854775807:=by have:=HM.out;omega
   have hstep:=ni E ov' S' wr HK.out.mc HZ.out (by have:=HK.out.len;unfold iK;omega);have HS:=Nc hstep;have hrs:=jl E.I E.T S';obtain⟨r,hr⟩:∃ r,eQ E.I E.T S'=r:=⟨_,rfl⟩;rw[hr] at HS hrs;have HRS:=Nc hrs;have HR:=Nc hr;clear hr hstep hrs;go_wp2_with fail
   refine HS.out.mono ?_;rintro e w1 hp;have hr1:=HK.out.fro.row HR0.out (by have:=HSz.out;omega);have hne:rb≠E.b:=by have:=HLT.out;omega
   cases r with
   | ok S2=>
    obtain⟨rfl,ov2,hm2,hf2⟩:=hp;have M2:=Nc (hm2.alloc (.cells #[.int .i64 0,.int .u16 0] 47));have F2:=Nc ((HK.out.fro.trans hf2).trans (Fro.gb ov2 (aJ (ah w1 (some E.b)) (.cells #[.int .i64 0,.int .u16 0] 47))));have HRun:=Nc (show eP E.I E.T n S=eP E.I E.T (n-(k+1)) S2 by rw[HK.out.run,show n-k=(n-(k+1))+1 by omega,yx _ HR.out]);have HLen:=Nc (show S2.out.length+(n-(k+1))≤1000000000 by have:=HK.out.len;have:=HRS.out.out S2 rfl;omega);clear hm2 hf2 HRS HS hr1 hne;unfold iL;go_wp2_with fail
    refine(qF _ _ _).mono ?_;rintro e w2 ⟨rfl,hb2⟩;have M3:=Nc (M2.out.kept hb2);have F3:=Nc (F2.out.trans (Fro.gb ov2 (ak (ah _ _) hb2)));clear hb2;go_wp2_with fail
    go_roundw
    case rel=>exact⟨k+1,ov2,S2,hlt,by go_num,Nc ⟨M3.out,F3.out,HRun.out,HLen.out⟩⟩
    case measure=>simp[intOf];omega
   | tr t x=>
    obtain⟨rfl,S2,hm2,hq2,hf2⟩:=hp;have htne:(t != 0)=true:=by have:=(HRS.out.tr t x rfl).1;simp;omega
    have M2:=Nc (hm2.alloc (.cells #[.int .i64 t,.int .u16 x] 47));have F2:=Nc ((HK.out.fro.trans hf2).trans (Fro.gb ov' (aJ (ah w1 (some E.b)) (.cells #[.int .i64 t,.int .u16 x] 47))));have hn2:=heap_alloc_new w1 (.cells #[.int .i64 t,.int .u16 x] 47);have HN2:=Nc hn2;have HRun:=Nc (show eP E.I E.T n S=(S',t,x) by rw[HK.out.run,show n-k=(n-(k+1))+1 by omega,yw _ HR.out]);have HQ:=Nc hq2;have HW1:=Nc (show rb < w1.heap.size by have h1:=HSz.out;have h2:=HK.out.fro.size;have h3:=hf2.size;omega);have HNe:=Nc (And.intro hr1 hne);clear hm2 hf2 HRS HS hr1 hne hq2 hn2;unfold iL;go_wp2_with fail
    refine(qF _ _ _).mono ?_;rintro e w2 ⟨rfl,hb2⟩;have M3:=M2.out.kept hb2;have F3:=F2.out.trans (Fro.gb ov' (ak (ah _ _) hb2));have N3:=af HN2.out hb2;have B3:=(F3.blk rb (by have:=HSz.out;omega) HNe.out.2 HR0.out).trans HBx.out;have hlt1:=HW1.out;have b0:=ae B3 0 _ rfl;have b1:=ae B3 1 _ rfl;have t0:=ae N3 0 _ rfl;have t1:=ae N3 1 _ rfl;have fz:=fun j=>frozen_of_row w2 rb j _ _ B3
    have G5:=ag (ag (ah w2 (some rb)) 0 (.int .i64 t)) 1 (.int .u16 x);have S5:=set2 B3 (.int .i64 t) (.int .u16 x);have M5:=Nc (M3.other G5 (by have:=HLT.out;have:=HHI.out;omega) HNe.out.2 HNe.out.1);have F5:Fro E ov w ov' ((w2.setCell ⟨rb,0,none⟩ (.int .i64 t)).setCell ⟨rb,1,none⟩ (.int .u16 x)):=by
     have hp1:=Fro.pre HB0.out F3;refine⟨Nat.le_trans hp1.size G5.size,fun k hk hne hro=>(G5.block k (Nat.lt_of_lt_of_le hk hp1.size) (by simp;have:=HRB.out;omega)).trans (hp1.blk k hk hne hro),hp1.new⟩
    have HF5:=Nc F5;have u0:=Nc (ae S5 0 _ rfl);have u1:=Nc (ae S5 1 _ rfl);clear hb2 M3 F3 N3 B3 G5 S5 F5 M2 F2;go_wp2_with fail
    exact bodyPost_ret (v:= .agg #[.int .i64 t,.int .u16 x]) (by simp[results,Tryz.results34,go_sem,u0.out,u1.out]) rfl (PostR.of HRun.out rfl M5.out HQ.out HF5.out)
  ·have hkn:k=n:=by omega
   subst hkn;have hnlt:¬ (k:Int) < m:=fun c=>hlt ((HKM.out k).1 c)
   have hne:rb≠E.b:=by have:=HLT.out;omega
   have hr1:=HK.out.fro.row HR0.out (by have:=HSz.out;omega);have B3:=(HK.out.fro.blk rb (by have:=HSz.out;omega) hne HR0.out).trans HBx.out;have b0:=ae B3 0 _ rfl;have b1:=ae B3 1 _ rfl;have fz:=fun j=>frozen_of_row wr rb j _ _ B3
   have G5:=ag (ag (ah wr (some rb)) 0 (.int .i64 7)) 1 (.int .u16 0);have S5:=set2 B3 (.int .i64 7) (.int .u16 0);have M5:=Nc (HK.out.mc.other G5 (by have:=HLT.out;have:=HHI.out;omega) hne hr1);have F5:Fro E ov w ov' ((wr.setCell ⟨rb,0,none⟩ (.int .i64 7)).setCell ⟨rb,1,none⟩ (.int .u16 0)):=by
    have hp1:=Fro.pre HB0.out HK.out.fro;refine⟨Nat.le_trans hp1.size G5.size,fun k hk hne hro=>(G5.block k (Nat.lt_of_lt_of_le hk hp1.size) (by simp;have:=HRB.out;omega)).trans (hp1.blk k hk hne hro),hp1.new⟩
   have HF5:=Nc F5;have HRun:=Nc (show eP E.I E.T k S=(S',7,0) by rw[HK.out.run,Nat.sub_self,zD]);have u0:=Nc (ae S5 0 _ rfl);have u1:=Nc (ae S5 1 _ rfl);clear B3 G5 S5 F5 hr1 hne;go_wp2_with fail
   exact bodyPost_ret (v:= .agg #[.int .i64 7,.int .u16 0]) (by simp[results,Tryz.results34,go_sem,u0.out,u1.out]) rfl (PostR.of HRun.out rfl M5.out (Eqv.refl _) HF5.out)
end Go.Proofs.YthkcloapiefggaaGreatDoor
