import Derived.Test.YthkcloapiefggaaGreatDoorQMac
namespace Go.Proofs.YthkcloapiefggaaGreatDoor
set_option linter.unusedVariables false
set_option linter.unusedSimpArgs false
set_option maxRecDepth 100000
set_option maxHeartbeats 1000000
open Go.ChangeShapes Go.WideShapes Go.RowKit
theorem oG(E:Env)(ov:Value)(S:Ms)(a:Int)(w:World)(h:Mc E ov S w)(ha:U16 a):
  Calls Tryz.prog 104 #[.pointer (some ⟨E.b,0,none⟩),.int .u16 a] w fun e w'=>e= .returned (.agg #[.int .i64 (plB S a),.int .u16 a])∧Below w.heap.size w w':=by
 have HB:=Nc ((Below.refl _ w).alloc (Nat.le_refl _) (.cells #[.int .i64 0,.int .u16 0] 77));have c19:=(h.alloc (.cells #[.int .i64 0,.int .u16 0] 77)).c19;have hn:=heap_alloc_new w (.cells #[.int .i64 0,.int .u16 0] 77);have n0:=ae hn 0 _ rfl;have n1:=ae hn 1 _ rfl;have hlt:=h.lt;have hne:E.b≠w.heap.size:=by omega
 clear h hn;by_cases q:a < 4096
 ·have HP:=Nc (show plB S a=0 from if_pos q)
  go_enter Tryz.func104,Tryz.ntmps104
  go_wp2_with fail
  exact bodyPost_ret (v:= .agg #[.int .i64 0,.int .u16 a]) (by simp[results,Tryz.results104,go_sem]) rfl ⟨by rw[HP.out],(Below.refl _ w).alloc (Nat.le_refl _) _⟩
 ·have HP:=Nc (show plB S a=S.aF from if_neg q)
  go_enter Tryz.func104,Tryz.ntmps104
  go_wp2_with fail
  exact bodyPost_ret (v:= .agg #[.int .i64 S.aF,.int .u16 a]) (by simp[results,Tryz.results104,go_sem]) rfl ⟨by rw[HP.out],(Below.refl _ w).alloc (Nat.le_refl _) _⟩
theorem kV(E:Env)(ov:Value)(S:Ms)(a v:Int)(w:World)(h:Mc E ov S w)(ha:U16 a)(hv:U16 v):
  Calls Tryz.prog 140 #[.pointer (some ⟨E.b,0,none⟩),.int .u16 a,.int .u16 v] w fun e w'=>Post E ov S w (stW S a v) e w':=by
 have H:=Nc h;obtain⟨a0,a1⟩:=ha;obtain⟨v0,v1⟩:=hv;have HW:=Nc (IntKind.wrap_u16 (a+1));have hW:IntKind.u16.wrap (a+1)=nx a:=IntKind.wrap_u16 (a+1);have hn0:0≤nx a:=by unfold nx;omega
 have hn1:nx a < 65536:=by unfold nx;omega
 have hR:stW S a v=if bQ a=true then(if bQ (nx a)=true then .ok {S with ram:=upd (upd S.ram (a-16384).toNat (v%256)) (nx a-16384).toNat (v/256)} else .tr 2 (nx a)) else .tr 2 a:=rfl
 obtain⟨r,hr⟩:∃ r,stW S a v=r:=⟨_,rfl⟩;obtain⟨x,hx⟩:∃ x,nx a=x:=⟨_,rfl⟩;rw[hr,hx] at hR;rw[hx] at hW hn0 hn1;rw[hr];have HR:=Nc hR;clear h hr hx hR;have hd:(v/256)%256=v/256:=by omega
 by_cases s1:bQ a=true
 ·by_cases s2:bQ x=true
  ·have HR':=Nc (HR.out.trans ((if_pos s1).trans (if_pos s2)))
   go_enter Tryz.func140,Tryz.ntmps140
   go_wp2_with fail
   refine(ig a _ s1).mono ?_;rintro e w1 ⟨rfl,rfl⟩;go_wp2_with fail
   refine(ig x _ s2).mono ?_;rintro e w1 ⟨rfl,rfl⟩;go_wp2_with fail
   refine(jE E ov S a (v%256) _ H.out s1 (by omega) (by omega)).mono ?_;rintro e w1 ⟨rfl,hm,hg⟩;have HM:=Nc hm;have HG:=Nc hg;clear hm hg;go_wp2_with fail
   refine(jE E ov _ x (v/256) _ HM.out s2 (by omega) (by omega)).mono ?_;rintro e w2 ⟨rfl,hm,hg⟩;have HM2:=Nc hm;have HG2:=Nc hg;clear hm hg;go_wp2_with fail
   go_end0
   exact Post.okk HR'.out rfl HM2.out (aS HG.out HG2.out)
  ·have HR':=Nc (HR.out.trans ((if_pos s1).trans (if_neg s2)))
   go_enter Tryz.func140,Tryz.ntmps140
   go_wp2_with fail
   refine(ig a _ s1).mono ?_;rintro e w1 ⟨rfl,rfl⟩;go_wp2_with fail
   refine(iJ x _ (by simpa using s2)).mono ?_;rintro e w1 ⟨rfl,rfl⟩;go_wp2_with fail
   exact⟨rfl,Post.trr HR'.out rfl H.out (Kp.refl S) (ah _ _)⟩
 ·have HR':=Nc (HR.out.trans (if_neg s1))
  go_enter Tryz.func140,Tryz.ntmps140
  go_wp2_with fail
  refine(iJ a _ (by simpa using s1)).mono ?_;rintro e w1 ⟨rfl,rfl⟩;go_wp2_with fail
  exact⟨rfl,Post.trr HR'.out rfl H.out (Kp.refl S) (ah _ _)⟩
structure InD(i:Ins):Prop where
 ok:i.Ok
 d0:0≤i.d
 d1:i.d < 8
 s0:0≤i.s
 s1:i.s < 8
 b0:0≤i.bk
 b1:i.bk < 256
theorem fJ(E:Env)(ov:Value)(S:Ms)(i:Ins)(w:World)(h:Mc E ov S w)(hi:InD i):
  Calls Tryz.prog 137 #[.pointer (some ⟨E.b,0,none⟩),.agg #[.int .i64 i.op,.int .i64 i.d,.int .i64 i.s,.int .u16 i.im,.int .u16 i.ax,.int .i64 i.bk,.int .i64 i.sz]] w fun e w'=>e= .returned (.int .u16 (atP S i))∧Below w.heap.size w w':=by
 have HP:=Nc (show atP S i=if 84≤i.op∧i.op≤87 then i.im else(S.r i.s.toNat+i.im)%65536 from rfl);obtain⟨k,hk,hk2⟩:∃ k:Nat,i.s=k∧k < 8:=⟨i.s.toNat,by have:=hi.s0;omega,by have:=hi.s1;have:=hi.s0;omega⟩;obtain⟨r0,r1⟩:=h.ok.r k hk2;have m0:=hi.ok.m0;have m1:=hi.ok.m1;obtain⟨op,d,s,im,ax,bk,sz⟩:=i;simp only at hk HP m0 m1⊢;subst hk;have HB:=Nc ((Below.refl _ w).alloc (Nat.le_refl _) (.cells #[.int .i64 op,.int .i64 d,.int .i64 k,.int .u16 im,.int .u16 ax,.int .i64 bk,.int .i64 sz] 58));have ck:=(h.alloc (.cells #[.int .i64 op,.int .i64 d,.int .i64 k,.int .u16 im,.int .u16 ax,.int .i64 bk,.int .i64 sz] 58)).cR k hk2;have ck0:=h.cR k hk2;have hn:=heap_alloc_new w (.cells #[.int .i64 op,.int .i64 d,.int .i64 k,.int .u16 im,.int .u16 ax,.int .i64 bk,.int .i64 sz] 58);have n0:=ae hn 0 _ rfl;have n2:=ae hn 2 _ rfl;have n3:=ae hn 3 _ rfl;have hlt:=h.lt;have hne:E.b≠w.heap.size:=by omega
 rw[show((k:Int)).toNat=k by omega] at HP;obtain⟨v,hv⟩:∃ v,S.r k=v:=⟨_,rfl⟩;rw[hv] at HP r0 r1 ck ck0;clear h hi hn hv;by_cases q:84≤op
 ·by_cases q':op≤87
  ·go_enter Tryz.func137,Tryz.ntmps137
   go_wp2_with fail
   go_ret
   exact⟨eX (by rw[HP.out,if_pos ⟨q,q'⟩]),HB.out⟩
  ·go_enter Tryz.func137,Tryz.ntmps137
   go_wp2_with fail
   go_region
   go_wp2_with fail
   go_ret
   exact⟨eX (by rw[HP.out,if_neg (by omega)];exact IntKind.wrap_u16 _),HB.out.drew⟩
 ·go_enter Tryz.func137,Tryz.ntmps137
  go_wp2_with fail
  go_region
  go_wp2_with fail
  go_ret
  exact⟨eX (by rw[HP.out,if_neg (by omega)];exact IntKind.wrap_u16 _),HB.out.drew⟩
def PV(r:Bool)(v a:Int)(e:Ending):Prop:=if r=true then e= .returned (.int .u8 v) else e= .panicked (dQ 2 a)
theorem PV.y{v a:Int}{e:Ending}(h:e= .returned (.int .u8 v)):PV true v a e:=by unfold PV;rw[if_pos rfl];exact h
theorem PV.n{v a:Int}{e:Ending}(h:e= .panicked (dQ 2 a)):PV false v a e:=by unfold PV;rw[if_neg (by decide)];exact h
theorem PV.yes{r:Bool}{v a:Int}{e:Ending}(hr:r=true)(h:PV r v a e):e= .returned (.int .u8 v):=by subst hr;exact h
theorem PV.no{r:Bool}{v a:Int}{e:Ending}(hr:r=false)(h:PV r v a e):e= .panicked (dQ 2 a):=by subst hr;exact h
theorem Mc.has{E:Env}{ov:Value}{S:Ms}{w:World}(h:Mc E ov S w):Has w E.P E.I:=h.env.has.below h.bel
theorem Mc.tab{E:Env}{ov:Value}{S:Ms}{w:World}(h:Mc E ov S w):iq w:=bF h.env.pos h.env.tab h.bel
theorem Mc.pos{E:Env}{ov:Value}{S:Ms}{w:World}(h:Mc E ov S w):0 < w.heap.size:=by have:=h.env.pos;have:=h.bel.size;omega
theorem Mc.cBk{E:Env}{ov:Value}{S:Ms}{w:World}(h:Mc E ov S w):w.cell? ⟨E.b,0,none⟩=some (.slice E.P.p0 E.I.banks.length E.P.c0):=h.hd 0 _ (by decide) rfl
theorem mX(E:Env)(ov:Value)(S:Ms)(bn a:Int)(w:World)(h:Mc E ov S w)(b0:0≤bn)(b1:bn < 256)(a0:0≤a)(a1:a < 65536):
  Calls Tryz.prog 143 #[.pointer (some ⟨E.b,0,none⟩),.int .i64 bn,.int .u16 a] w fun e w'=>PV (eu E.I bn a) (fO E.I bn a) a e∧w=w':=by
 obtain⟨k,rfl⟩:∃ k:Nat,bn=k:=⟨bn.toNat,by omega⟩;obtain⟨m,rfl⟩:∃ m:Nat,a=m:=⟨a.toNat,by omega⟩;have HB:=h.cBk;have hh:=h.has;have hz:=h.env.I.n0;have hbs:=h.env.I.bs;have hrom:eu E.I (k:Int) (m:Int)=(decide ((m:Int) < 4096) && decide ((k:Int) < E.I.banks.length) && decide ((m:Int) < (bk E.I.banks k).size)):=rfl;have hval:fO E.I (k:Int) (m:Int)=ba (bk E.I.banks k) m:=rfl;obtain⟨r,hr⟩:∃ r,eu E.I (k:Int) (m:Int)=r:=⟨_,rfl⟩;obtain⟨v,hv⟩:∃ v,fO E.I (k:Int) (m:Int)=v:=⟨_,rfl⟩;rw[hr] at hrom⊢;rw[hv] at hval⊢;clear hr hv;by_cases q1:(m:Int) < 4096
 ·by_cases q2:k < E.I.banks.length
  ·obtain⟨g,hg,hc⟩:=hh.s0.aF (jQ q2)
   have hsm:=hbs _ (ji q2);obtain⟨s,hs⟩:∃ s,bk E.I.banks k=s:=⟨_,rfl⟩;rw[hs] at hrom hval hc hsm;rw[hg] at HB;have HH:=Nc h;have q2':(k:Int) < (E.I.banks.length:Int):=by omega
   unfold maxLen at hsm;have hz1:=Nc hz;clear h hh hbs hg hs hz;by_cases q3:m < s.size
   ·have hR:r=true:=by rw[hrom];simp;omega
    subst hR;have HV:=Nc hval;have HA:=Nc (bG s m q3);have HD:=ay s m;have q3':(m:Int) < (s.size:Int):=by omega
    clear hrom hval;go_enter Tryz.func143,Tryz.ntmps143
    go_wp2_with fail
    refine(dw _ _ _).mono ?_;rintro e w' ⟨rfl,rfl⟩;go_wp2_with fail
    go_ret
    exact⟨PV.y (eX (by rw[HV.out,← HA.out])),rfl⟩
   ·have hR:r=false:=by rw[hrom];simp;omega
    subst hR;have q3':¬ (m:Int) < (s.size:Int):=by omega
    clear hrom hval;go_enter Tryz.func143,Tryz.ntmps143
    go_wp2_with fail
    refine(bH _ _ _).mono ?_;rintro e w' ⟨rfl,rfl⟩;go_wp2_with fail
    exact⟨rfl,PV.n rfl,rfl⟩
  ·have hR:r=false:=by rw[hrom];simp;omega
   subst hR;have q2':¬ (k:Int) < (E.I.banks.length:Int):=by omega
   clear hrom hval hh h hbs;go_enter Tryz.func143,Tryz.ntmps143
   go_wp2_with fail
   refine(bH _ _ _).mono ?_;rintro e w' ⟨rfl,rfl⟩;go_wp2_with fail
   exact⟨rfl,PV.n rfl,rfl⟩
 ·have hR:r=false:=by rw[hrom];simp;omega
  subst hR;clear hrom hval hh h hbs;go_enter Tryz.func143,Tryz.ntmps143
  go_wp2_with fail
  refine(bH _ _ _).mono ?_;rintro e w' ⟨rfl,rfl⟩;go_wp2_with fail
  exact⟨rfl,PV.n rfl,rfl⟩
theorem Eh{I:Im}{S:Ms}{a:Int}(h:cbB I S a=true):0≤plB S a∧plB S a < I.banks.length∧a%4096 < (bk I.banks (plB S a).toNat).size:=jM h
theorem Mc.cI{E:Env}{ov:Value}{S:Ms}{w:World}(h:Mc E ov S w):w.cell? ⟨E.b,0,none⟩=some (.slice E.P.p0 E.I.banks.length E.P.c0)∧w.cell? ⟨E.b,1,none⟩=some (.int .u16 E.I.en)∧w.cell? ⟨E.b,2,none⟩=some (.int .u16 E.I.ve)∧
  w.cell? ⟨E.b,3,none⟩=some (.slice E.P.p1 E.I.data.length E.P.c1)∧w.cell? ⟨E.b,4,none⟩=some (.slice E.P.p2 E.I.rel.length E.P.c2):=
 ⟨h.hd 0 _ (by decide) rfl,h.hd 1 _ (by decide) rfl,h.hd 2 _ (by decide) rfl,h.hd 3 _ (by decide) rfl,h.hd 4 _ (by decide) rfl⟩
theorem uF(E:Env)(ov:Value)(S:Ms)(a:Int)(w:World)(h:Mc E ov S w)(ha:U16 a):
  Calls Tryz.prog 163 #[.pointer (some ⟨E.b,0,none⟩),.int .u16 a] w fun e w'=>PV (cbB E.I S a) (cbV E.I S a) a e∧Below w.heap.size w w':=by
 have H:=Nc h;have hS1:=Nc h.cI;have hS2:=Nc h.drew.cI;have HP:=Nc (fun W (hw:Mc E ov S W)=>oG E ov S a W hw ha);have HO:=Nc (fun W (hw:Mc E ov S W)=>uq E.P E.I (plB S a) a W h.env.I hw.has ha.1 ha.2);obtain⟨a0,a1⟩:=ha;have hb:=Nc (Eh (I:=E.I) (S:=S) (a:=a));have hval:Hid (cbV E.I S a=ba (bk E.I.banks (plB S a).toNat) (a%4096).toNat):=Nc rfl;rw[show gU E.I (plB S a) a=cbB E.I S a from rfl] at HO;obtain⟨r,hr⟩:∃ r,cbB E.I S a=r:=⟨_,rfl⟩;obtain⟨v,hv⟩:∃ v,cbV E.I S a=v:=⟨_,rfl⟩;obtain⟨p,hp⟩:∃ p,plB S a=p:=⟨_,rfl⟩;obtain⟨x,hx⟩:∃ x,a%4096=x:=⟨_,rfl⟩;rw[hr] at hb HO⊢;rw[hv] at hval⊢;rw[hp] at hb hval HO HP;rw[hx] at hb hval HO;have x0:0≤x:=by omega
 unfold imV at HO;have HHas:=Nc h.has;have HOk:=Nc h.env.I;clear h hr hv hp hx;cases r
 ·have e0:xx false p=0:=rfl
  have e1:xx false x=0:=rfl;rw[e0,e1] at HO;go_enter Tryz.func163,Tryz.ntmps163
  go_wp2_with fail
  go_region_held3 (fun w'=>w'.cell? ⟨E.b,0,none⟩=some (.slice E.P.p0 E.I.banks.length E.P.c0)∧w'.cell? ⟨E.b,1,none⟩=some (.int .u16 E.I.en)∧w'.cell? ⟨E.b,2,none⟩=some (.int .u16 E.I.ve)∧w'.cell? ⟨E.b,3,none⟩=some (.slice E.P.p1 E.I.data.length E.P.c1)∧w'.cell? ⟨E.b,4,none⟩=some (.slice E.P.p2 E.I.rel.length E.P.c2))
   (first | with_reducible exact hS1.out | with_reducible exact hS2.out | with_reducible exact hs3.out | with_reducible exact hs4.out)
   (first
    | (go_at_call 104;(with_reducible refine(HP.out _ H.out.drew).mono ?_);rintro e w1 ⟨rfl,hb1⟩;have HM1:=Nc (H.out.drew.kept hb1);have hs3:=Nc (H.out.drew.kept hb1).cI;have HB1:=Nc ((Below.refl _ w).drew.trans hb1);clear hb1)
    | (go_at_call 134;(with_reducible refine(HO.out _ HM1.out).mono ?_);rintro e w2 ⟨rfl,hb2⟩;have HM2:=Nc (HM1.out.kept hb2);have hs4:=Nc (HM1.out.kept hb2).cI;have HB2:=Nc (HB1.out.trans (hb2.mono HB1.out.size));clear hb2))
  all_goals
   go_wp2_with fail
   refine(bH _ _ _).mono ?_;rintro e w3 ⟨rfl,rfl⟩;go_wp2_with fail
   exact⟨rfl,PV.n rfl,HB2.out⟩
 ·obtain⟨q0,q1,q2⟩:=hb.out rfl
  have e0:xx true p=p:=rfl;have e1:xx true x=x:=rfl;rw[e0,e1] at HO;obtain⟨k,rfl⟩:∃ k:Nat,p=k:=⟨p.toNat,by omega⟩;obtain⟨m,rfl⟩:∃ m:Nat,x=m:=⟨x.toNat,by omega⟩;have q1':k < E.I.banks.length:=by omega
  obtain⟨g,hg,hc⟩:=HHas.out.s0.aF (jQ q1');have hsm:=HOk.out.bs _ (ji q1');rw[show(((k:Nat):Int)).toNat=k by omega] at hval q2;rw[show(((m:Nat):Int)).toNat=m by omega] at hval;obtain⟨s,hs⟩:∃ s,bk E.I.banks k=s:=⟨_,rfl⟩;have HG:=Nc (fun W (hw:Mc E ov S W)=>hw.has.s0.aF (jQ q1'));rw[hs] at hval hc hsm q2 HG;rw[hg] at hS1 hS2;have HPg:=Nc hg;unfold maxLen at hsm;have HV:=Nc hval;have HA:=Nc (bG s m (by omega));have HD:=ay s m;clear hg hs hc hval hb;go_enter Tryz.func163,Tryz.ntmps163
  go_wp2_with fail
  go_region_held3 (fun w'=>w'.cell? ⟨E.b,0,none⟩=some (.slice (some ⟨g,0,none⟩) E.I.banks.length E.P.c0)∧w'.cell? ⟨E.b,1,none⟩=some (.int .u16 E.I.en)∧w'.cell? ⟨E.b,2,none⟩=some (.int .u16 E.I.ve)∧w'.cell? ⟨E.b,3,none⟩=some (.slice E.P.p1 E.I.data.length E.P.c1)∧w'.cell? ⟨E.b,4,none⟩=some (.slice E.P.p2 E.I.rel.length E.P.c2))
   (first | with_reducible exact hS1.out | with_reducible exact hS2.out | with_reducible exact hs3.out | with_reducible exact hs4.out)
   (first
    | (go_at_call 104;(with_reducible refine(HP.out _ H.out.drew).mono ?_);rintro e w1 ⟨rfl,hb1⟩;have HM1:=Nc (H.out.drew.kept hb1);have hs3:=Nc (HPg.out▸(H.out.drew.kept hb1).cI);have HB1:=Nc ((Below.refl _ w).drew.trans hb1);clear hb1)
    | (go_at_call 134;(rw[← HPg.out]);(with_reducible refine(HO.out _ HM1.out).mono ?_);rintro e w2 ⟨rfl,hb2⟩;have HM2:=Nc (HM1.out.kept hb2);have hs4:=Nc (HPg.out▸(HM1.out.kept hb2).cI);have HB2:=Nc (HB1.out.trans (hb2.mono HB1.out.size));clear hb2))
  all_goals
   go_wp2_with fail
   refine(dw _ _ _).mono ?_;rintro e w3 ⟨rfl,rfl⟩;obtain⟨c0,c1,c2,c3,c4⟩:=hs4.out;obtain⟨g',hg',hc'⟩:=HG.out _ HM2.out;obtain rfl:g'=g:=by have:=HPg.out.symm.trans hg';simpa using this.symm
   have q1i:(k:Int) < (E.I.banks.length:Int):=by omega
   have hfz:=HM2.out.frz;clear hg' c1 c2 c3 c4;go_wp2_with fail
   go_ret
   exact⟨PV.y (eX (by rw[HV.out,← HA.out])),HB2.out⟩
def VP(v:Vl)(e:Ending):Prop:=match v with | .ok x=>e= .returned (.int .u16 x) | .tr k i=>e= .panicked (dQ k i)
theorem VP.y{v:Vl}{x:Int}{e:Ending}(hv:v= .ok x)(h:e= .returned (.int .u16 x)):VP v e:=by subst hv;exact h
theorem VP.n{v:Vl}{k i:Int}{e:Ending}(hv:v= .tr k i)(h:e= .panicked (dQ k i)):VP v e:=by subst hv;exact h
theorem CZ(a:Int):U16 (nx a):=dU _
theorem wV(ok:Int→Bool)(val:Int→Int)(a:Int):wdP ok val a=if ok a=true then(if ok (nx a)=true then .ok (val a+256*val (nx a)) else .tr 2 (nx a)) else .tr 2 a:=rfl
theorem vK(E:Env)(ov:Value)(S:Ms)(bn a:Int)(p q:Nat)(w:World)(h:Mc E ov S w)(b0:0≤bn)(b1:bn < 256)(ha:U16 a)
  (hp:w.cell? ⟨p,0,none⟩=some (.pointer (some ⟨E.b,0,none⟩))) (hq:w.cell? ⟨q,5,none⟩=some (.int .i64 bn)):
  Calls Tryz.prog 142 #[.int .u16 a,.pointer (some ⟨p,0,none⟩),.pointer (some ⟨q,0,none⟩)] w fun e w'=>PV (eu E.I bn a) (fO E.I bn a) a e∧w=w':=by
 have HC:=Nc (mX E ov S bn a w h b0 b1 ha.1 ha.2);obtain⟨r,hr⟩:∃ r,eu E.I bn a=r:=⟨_,rfl⟩;obtain⟨v,hv⟩:∃ v,fO E.I bn a=v:=⟨_,rfl⟩;rw[hr,hv] at HC⊢;clear hr hv h b0 b1 ha;cases r
 ·go_enter Tryz.func142,Tryz.ntmps142
  go_wp2_with fail
  refine HC.out.mono ?_;rintro e w1 ⟨he,rfl⟩;obtain rfl:=PV.no rfl he;go_wp2_with fail
  exact⟨rfl,PV.n rfl,rfl⟩
 ·go_enter Tryz.func142,Tryz.ntmps142
  go_wp2_with fail
  refine HC.out.mono ?_;rintro e w1 ⟨he,rfl⟩;obtain rfl:=PV.yes rfl he;go_wp2_with fail
  go_ret
  exact⟨PV.y rfl,rfl⟩
theorem oP(I:Im)(b a:Int):0≤fO I b a∧fO I b a < 256:=ay _ _
theorem qR(I:Im)(S:Ms)(a:Int):0≤cbV I S a∧cbV I S a < 256:=ay _ _
theorem jH{S:Ms}(h:S.Ok){a:Int}(ha:bQ a=true):0≤eY S a∧eY S a < 256:=by
 unfold bQ at ha;simp at ha;exact h.ram _ (by omega)
theorem qi(E:Env)(ov:Value)(S:Ms)(a:Int)(w:World)(h:Mc E ov S w):
  Calls Tryz.prog 139 #[.pointer (some ⟨E.b,0,none⟩),.int .u16 a] w fun e w'=>PV (bQ a) (eY S a) a e∧Below w.heap.size w w':=by
 by_cases q:bQ a=true
 ·rw[q]
  exact(xn E ov S a w h q).mono fun e w' h=>⟨PV.y h.1,h.2▸Below.refl _ _⟩
 ·have q':bQ a=false:=by simpa using q
  rw[q'];exact(xq E a w q').mono fun e w' h=>⟨PV.n h.1,h.2▸Below.refl _ _⟩
theorem uT(E:Env)(ov:Value)(S:Ms)(a:Int)(w:World)(h:Mc E ov S w)(ha:U16 a):
  Calls Tryz.prog 138 #[.int .u16 a,.func (.func 139) #[.pointer (some ⟨E.b,0,none⟩)] #[]] w fun e w'=>VP (wdP (bQ) (eY S) a) e∧Below w.heap.size w w':=by
 have HC:=Nc (fun W (x:Int) (hx:U16 x) (hb:Below w.heap.size w W)=>qi E ov S x W (h.kept hb));have HE:=Nc (wV (bQ) (eY S) a);have hnb:=CZ a;have hW:IntKind.u16.wrap (a+1)=nx a:=IntKind.wrap_u16 (a+1);have HB1:=Nc (fun (hy:bQ a=true)=>jH h.ok hy);have HB2:=Nc (fun (hy:bQ (nx a)=true)=>jH h.ok hy);obtain⟨V,hV⟩:∃ V,wdP (bQ) (eY S) a=V:=⟨_,rfl⟩;rw[hV] at HE⊢;obtain⟨f,hf⟩:∃ f,(bQ)=f:=⟨_,rfl⟩;obtain⟨g,hg⟩:∃ g,(eY S)=g:=⟨_,rfl⟩;rw[hf,hg] at HC HE;rw[hg] at HB1 HB2;rw[hf] at HB1 HB2;obtain⟨x,hx⟩:∃ x,nx a=x:=⟨_,rfl⟩;rw[hx] at hnb hW HE HB2;have HN:=Nc hnb;have HA:=Nc ha;obtain⟨a0,a1⟩:=ha;obtain⟨n0,n1⟩:=hnb;clear hV hf hg hx h;by_cases q1:f a=true
 ·have HB:=HB1.out q1
  by_cases q2:f x=true
  ·have hE:=Nc (HE.out.trans ((if_pos q1).trans (if_pos q2)))
   have HBx:=HB2.out q2;have ho:=mD _ _ HB.1 HB.2 HBx.1 HBx.2;go_enter Tryz.func138,Tryz.ntmps138
   go_wp2_with fail
   refine(HC.out _ a HA.out (Below.refl _ _)).mono ?_;rintro e w1 ⟨he,hb1⟩;obtain rfl:=PV.yes q1 he;have HB1':=Nc hb1;clear hb1 he;go_wp2_with fail
   refine(HC.out _ x HN.out HB1'.out).mono ?_;rintro e w2 ⟨he,hb2⟩;obtain rfl:=PV.yes q2 he;have HB2':=Nc (HB1'.out.trans (hb2.mono HB1'.out.size));clear hb2 he;go_wp2_with fail
   go_ret
   exact⟨VP.y hE.out rfl,HB2'.out⟩
  ·have hE:=Nc (HE.out.trans ((if_pos q1).trans (if_neg q2)))
   go_enter Tryz.func138,Tryz.ntmps138
   go_wp2_with fail
   refine(HC.out _ a HA.out (Below.refl _ _)).mono ?_;rintro e w1 ⟨he,hb1⟩;obtain rfl:=PV.yes q1 he;have HB1':=Nc hb1;clear hb1 he;go_wp2_with fail
   refine(HC.out _ x HN.out HB1'.out).mono ?_;rintro e w2 ⟨he,hb2⟩;obtain rfl:=PV.no (by simpa using q2) he;have HB2':=Nc (HB1'.out.trans (hb2.mono HB1'.out.size));clear hb2 he;go_wp2_with fail
   exact⟨rfl,VP.n hE.out rfl,HB2'.out⟩
 ·have hE:=Nc (HE.out.trans (if_neg q1))
  go_enter Tryz.func138,Tryz.ntmps138
  go_wp2_with fail
  refine(HC.out _ a HA.out (Below.refl _ _)).mono ?_;rintro e w1 ⟨he,hb1⟩;obtain rfl:=PV.no (by simpa using q1) he;have HB1':=Nc hb1;clear hb1 he;go_wp2_with fail
  exact⟨rfl,VP.n hE.out rfl,HB1'.out⟩
theorem tK(E:Env)(ov:Value)(S:Ms)(a:Int)(w:World)(h:Mc E ov S w)(ha:U16 a):
  Calls Tryz.prog 138 #[.int .u16 a,.func (.func 163) #[.pointer (some ⟨E.b,0,none⟩)] #[]] w fun e w'=>VP (wdP (cbB E.I S) (cbV E.I S) a) e∧Below w.heap.size w w':=by
 have HC:=Nc (fun W (x:Int) (hx:U16 x) (hb:Below w.heap.size w W)=>uF E ov S x W (h.kept hb) hx);have HE:=Nc (wV (cbB E.I S) (cbV E.I S) a);have hnb:=CZ a;have hW:IntKind.u16.wrap (a+1)=nx a:=IntKind.wrap_u16 (a+1);have HB1:=Nc (fun (hy:cbB E.I S a=true)=>qR E.I S a);have HB2:=Nc (fun (hy:cbB E.I S (nx a)=true)=>qR E.I S (nx a));obtain⟨V,hV⟩:∃ V,wdP (cbB E.I S) (cbV E.I S) a=V:=⟨_,rfl⟩;rw[hV] at HE⊢;obtain⟨f,hf⟩:∃ f,(cbB E.I S)=f:=⟨_,rfl⟩;obtain⟨g,hg⟩:∃ g,(cbV E.I S)=g:=⟨_,rfl⟩;rw[hf,hg] at HC HE;rw[hg] at HB1 HB2;rw[hf] at HB1 HB2;obtain⟨x,hx⟩:∃ x,nx a=x:=⟨_,rfl⟩;rw[hx] at hnb hW HE HB2;have HN:=Nc hnb;have HA:=Nc ha;obtain⟨a0,a1⟩:=ha;obtain⟨n0,n1⟩:=hnb;clear hV hf hg hx h;by_cases q1:f a=true
 ·have HB:=HB1.out q1
  by_cases q2:f x=true
  ·have hE:=Nc (HE.out.trans ((if_pos q1).trans (if_pos q2)))
   have HBx:=HB2.out q2;have ho:=mD _ _ HB.1 HB.2 HBx.1 HBx.2;go_enter Tryz.func138,Tryz.ntmps138
   go_wp2_with fail
   refine(HC.out _ a HA.out (Below.refl _ _)).mono ?_;rintro e w1 ⟨he,hb1⟩;obtain rfl:=PV.yes q1 he;have HB1':=Nc hb1;clear hb1 he;go_wp2_with fail
   refine(HC.out _ x HN.out HB1'.out).mono ?_;rintro e w2 ⟨he,hb2⟩;obtain rfl:=PV.yes q2 he;have HB2':=Nc (HB1'.out.trans (hb2.mono HB1'.out.size));clear hb2 he;go_wp2_with fail
   go_ret
   exact⟨VP.y hE.out rfl,HB2'.out⟩
  ·have hE:=Nc (HE.out.trans ((if_pos q1).trans (if_neg q2)))
   go_enter Tryz.func138,Tryz.ntmps138
   go_wp2_with fail
   refine(HC.out _ a HA.out (Below.refl _ _)).mono ?_;rintro e w1 ⟨he,hb1⟩;obtain rfl:=PV.yes q1 he;have HB1':=Nc hb1;clear hb1 he;go_wp2_with fail
   refine(HC.out _ x HN.out HB1'.out).mono ?_;rintro e w2 ⟨he,hb2⟩;obtain rfl:=PV.no (by simpa using q2) he;have HB2':=Nc (HB1'.out.trans (hb2.mono HB1'.out.size));clear hb2 he;go_wp2_with fail
   exact⟨rfl,VP.n hE.out rfl,HB2'.out⟩
 ·have hE:=Nc (HE.out.trans (if_neg q1))
  go_enter Tryz.func138,Tryz.ntmps138
  go_wp2_with fail
  refine(HC.out _ a HA.out (Below.refl _ _)).mono ?_;rintro e w1 ⟨he,hb1⟩;obtain rfl:=PV.no (by simpa using q1) he;have HB1':=Nc hb1;clear hb1 he;go_wp2_with fail
  exact⟨rfl,VP.n hE.out rfl,HB1'.out⟩
theorem uS(E:Env)(ov:Value)(S:Ms)(a:Int)(bn:Int)(p q:Nat)(w:World)(h:Mc E ov S w)(ha:U16 a)(b0:0≤bn)(b1:bn < 256)(hp:w.cell? ⟨p,0,none⟩=some (.pointer (some ⟨E.b,0,none⟩)))(hq:w.cell? ⟨q,5,none⟩=some (.int .i64 bn)):
  Calls Tryz.prog 138 #[.int .u16 a,.func (.func 142) #[] #[.pointer (some ⟨p,0,none⟩),.pointer (some ⟨q,0,none⟩)]] w fun e w'=>VP (wdP (eu E.I bn) (fO E.I bn) a) e∧Below w.heap.size w w':=by
 have HC:=Nc (fun W (x:Int) (hx:U16 x) (hb:Below w.heap.size w W)=>(vK E ov S bn x p q W (h.kept hb) b0 b1 hx ((hb.cell (p:=⟨p,0,none⟩) (World.block_lt_of_cell? _ _ hp)).trans hp) ((hb.cell (p:=⟨q,5,none⟩) (World.block_lt_of_cell? _ _ hq)).trans hq)).mono fun e w' h=>(⟨h.1,h.2▸Below.refl _ _⟩:PV (eu E.I bn x) (fO E.I bn x) x e∧Below W.heap.size W w'));have HE:=Nc (wV (eu E.I bn) (fO E.I bn) a);have hnb:=CZ a;have hW:IntKind.u16.wrap (a+1)=nx a:=IntKind.wrap_u16 (a+1);have HB1:=Nc (fun (hy:eu E.I bn a=true)=>oP E.I bn a);have HB2:=Nc (fun (hy:eu E.I bn (nx a)=true)=>oP E.I bn (nx a));obtain⟨V,hV⟩:∃ V,wdP (eu E.I bn) (fO E.I bn) a=V:=⟨_,rfl⟩;rw[hV] at HE⊢;obtain⟨f,hf⟩:∃ f,(eu E.I bn)=f:=⟨_,rfl⟩;obtain⟨g,hg⟩:∃ g,(fO E.I bn)=g:=⟨_,rfl⟩;rw[hf,hg] at HC HE;rw[hg] at HB1 HB2;rw[hf] at HB1 HB2;obtain⟨x,hx⟩:∃ x,nx a=x:=⟨_,rfl⟩;rw[hx] at hnb hW HE HB2;have HN:=Nc hnb;have HA:=Nc ha;obtain⟨a0,a1⟩:=ha;obtain⟨n0,n1⟩:=hnb;clear hV hf hg hx h hp hq b0 b1;by_cases q1:f a=true
 ·have HB:=HB1.out q1
  by_cases q2:f x=true
  ·have hE:=Nc (HE.out.trans ((if_pos q1).trans (if_pos q2)))
   have HBx:=HB2.out q2;have ho:=mD _ _ HB.1 HB.2 HBx.1 HBx.2;go_enter Tryz.func138,Tryz.ntmps138
   go_wp2_with fail
   refine(HC.out _ a HA.out (Below.refl _ _)).mono ?_;rintro e w1 ⟨he,hb1⟩;obtain rfl:=PV.yes q1 he;have HB1':=Nc hb1;clear hb1 he;go_wp2_with fail
   refine(HC.out _ x HN.out HB1'.out).mono ?_;rintro e w2 ⟨he,hb2⟩;obtain rfl:=PV.yes q2 he;have HB2':=Nc (HB1'.out.trans (hb2.mono HB1'.out.size));clear hb2 he;go_wp2_with fail
   go_ret
   exact⟨VP.y hE.out rfl,HB2'.out⟩
  ·have hE:=Nc (HE.out.trans ((if_pos q1).trans (if_neg q2)))
   go_enter Tryz.func138,Tryz.ntmps138
   go_wp2_with fail
   refine(HC.out _ a HA.out (Below.refl _ _)).mono ?_;rintro e w1 ⟨he,hb1⟩;obtain rfl:=PV.yes q1 he;have HB1':=Nc hb1;clear hb1 he;go_wp2_with fail
   refine(HC.out _ x HN.out HB1'.out).mono ?_;rintro e w2 ⟨he,hb2⟩;obtain rfl:=PV.no (by simpa using q2) he;have HB2':=Nc (HB1'.out.trans (hb2.mono HB1'.out.size));clear hb2 he;go_wp2_with fail
   exact⟨rfl,VP.n hE.out rfl,HB2'.out⟩
 ·have hE:=Nc (HE.out.trans (if_neg q1))
  go_enter Tryz.func138,Tryz.ntmps138
  go_wp2_with fail
  refine(HC.out _ a HA.out (Below.refl _ _)).mono ?_;rintro e w1 ⟨he,hb1⟩;obtain rfl:=PV.no (by simpa using q1) he;have HB1':=Nc hb1;clear hb1 he;go_wp2_with fail
  exact⟨rfl,VP.n hE.out rfl,HB1'.out⟩
theorem lm(E:Env)(ov:Value)(S:Ms)(t n:Int)(w:World)(h:Mc E ov S w)(ht:U16 t)(hn:U16 n):
  Calls Tryz.prog 149 #[.pointer (some ⟨E.b,0,none⟩),.int .u16 t,.int .u16 n] w fun e w'=>Post E ov S w (iW E.I S t n) e w':=by
 have H:=Nc h;have hw1:IntKind.u16.wrap (2*n)=2*n%65536:=IntKind.wrap_u16 _;have hw2:IntKind.u16.wrap (t+2*n%65536)=(t+2*n)%65536:=(IntKind.wrap_u16 _).trans (by omega);have hw3:IntKind.u16.wrap (t+2*n)=(t+2*n)%65536:=IntKind.wrap_u16 _;have HW:=Nc (tK E ov S ((t+2*n)%65536) w h (dU _));have HR:=Nc (show iW E.I S t n=(wdP (cbB E.I S) (cbV E.I S) ((t+2*n)%65536)).to fun v=>{S with pc:=v} from rfl);have HBd:=Nc (fun v (hv:wdP (cbB E.I S) (cbV E.I S) ((t+2*n)%65536)= .ok v)=>show U16 v by
  have h1:=qR E.I S ((t+2*n)%65536);have h2:=qR E.I S (nx ((t+2*n)%65536));unfold wdP at hv
  split at hv
  ·split at hv
   ·injection hv with hv;subst hv;exact⟨by omega,by omega⟩
   ·cases hv
  ·cases hv)
 obtain⟨R,hR⟩:∃ R,iW E.I S t n=R:=⟨_,rfl⟩;obtain⟨V,hV⟩:∃ V,wdP (cbB E.I S) (cbV E.I S) ((t+2*n)%65536)=V:=⟨_,rfl⟩;rw[hR,hV] at HR;rw[hV] at HW HBd;rw[hR];have hmf:∀ (fn:Fn) (first cap:Array Value) (w:World),(Instr.makeFunc fn first cap).run Tryz.prog w= .ok (.func fn first cap) w:=fun _ _ _ _=>rfl
 obtain⟨t0,t1⟩:=ht;obtain⟨n0,n1⟩:=hn;clear hR hV h;cases V with
 | tr k i=>
  go_enter Tryz.func149,Tryz.ntmps149
  go_wp2_with fail
  refine HW.out.mono ?_;rintro e w1 ⟨he,hb⟩;obtain rfl:e= .panicked (dQ k i):=he;have HM:=Nc (H.out.kept hb);have HG:=Nc (ak (ah w (some E.b)) hb);clear hb;go_wp2_with fail
  exact⟨rfl,Post.trr HR.out rfl HM.out (Kp.refl S) HG.out⟩
 | ok v=>
  go_enter Tryz.func149,Tryz.ntmps149
  go_wp2_with fail
  refine HW.out.mono ?_;rintro e w1 ⟨he,hb⟩;obtain rfl:e= .returned (.int .u16 v):=he;have HM:=Nc (H.out.kept hb);have HX:=Nc ((H.out.kept hb).dF v (HBd.out v rfl));have HG:=Nc (ag (ak (ah w (some E.b)) hb) 15 (.int .u16 v));have c15:=HM.out.c15;have hf:=HM.out.frz;clear hb;go_wp2_with fail
  go_end0
  exact Post.okk HR.out rfl HX.out HG.out
def lF(S:Ms)(op im:Int):Int:=if op=162∨op=163 then S.fp+sgn im else(S.sp:Int)-1-im
def NP(S:Ms)(n:Int)(e:Ending):Prop:=if 0≤n∧n < (S.sp:Int) then e= .returned (.int .i64 n) else e= .panicked (dQ 5 0)
theorem NP.y{S:Ms}{n:Int}{e:Ending}(hn:0≤n∧n < (S.sp:Int))(h:e= .returned (.int .i64 n)):NP S n e:=by unfold NP;rw[if_pos hn];exact h
theorem NP.n{S:Ms}{n:Int}{e:Ending}(hn:¬ (0≤n∧n < (S.sp:Int)))(h:e= .panicked (dQ 5 0)):NP S n e:=by unfold NP;rw[if_neg hn];exact h
theorem NP.yes{S:Ms}{n:Int}{e:Ending}(hn:0≤n∧n < (S.sp:Int))(h:NP S n e):e= .returned (.int .i64 n):=by unfold NP at h;rw[if_pos hn] at h;exact h
theorem NP.no{S:Ms}{n:Int}{e:Ending}(hn:¬ (0≤n∧n < (S.sp:Int)))(h:NP S n e):e= .panicked (dQ 5 0):=by unfold NP at h;rw[if_neg hn] at h;exact h
theorem aG(w:World)(op d s im ax bk sz:Int):(w.alloc (.cells #[.int .i64 op,.int .i64 d,.int .i64 s,.int .u16 im,.int .u16 ax,.int .i64 bk,.int .i64 sz] 58)).cell? ⟨w.heap.size,0,none⟩=some (.int .i64 op)∧(w.alloc (.cells #[.int .i64 op,.int .i64 d,.int .i64 s,.int .u16 im,.int .u16 ax,.int .i64 bk,.int .i64 sz] 58)).cell? ⟨w.heap.size,1,none⟩=some (.int .i64 d)
  ∧(w.alloc (.cells #[.int .i64 op,.int .i64 d,.int .i64 s,.int .u16 im,.int .u16 ax,.int .i64 bk,.int .i64 sz] 58)).cell? ⟨w.heap.size,2,none⟩=some (.int .i64 s)∧(w.alloc (.cells #[.int .i64 op,.int .i64 d,.int .i64 s,.int .u16 im,.int .u16 ax,.int .i64 bk,.int .i64 sz] 58)).cell? ⟨w.heap.size,3,none⟩=some (.int .u16 im)
  ∧(w.alloc (.cells #[.int .i64 op,.int .i64 d,.int .i64 s,.int .u16 im,.int .u16 ax,.int .i64 bk,.int .i64 sz] 58)).cell? ⟨w.heap.size,4,none⟩=some (.int .u16 ax)∧(w.alloc (.cells #[.int .i64 op,.int .i64 d,.int .i64 s,.int .u16 im,.int .u16 ax,.int .i64 bk,.int .i64 sz] 58)).cell? ⟨w.heap.size,5,none⟩=some (.int .i64 bk)
  ∧(w.alloc (.cells #[.int .i64 op,.int .i64 d,.int .i64 s,.int .u16 im,.int .u16 ax,.int .i64 bk,.int .i64 sz] 58)).cell? ⟨w.heap.size,6,none⟩=some (.int .i64 sz):=by
 have hn:=heap_alloc_new w (.cells #[.int .i64 op,.int .i64 d,.int .i64 s,.int .u16 im,.int .u16 ax,.int .i64 bk,.int .i64 sz] 58);exact⟨ae hn 0 _ rfl,ae hn 1 _ rfl,ae hn 2 _ rfl,ae hn 3 _ rfl,ae hn 4 _ rfl,ae hn 5 _ rfl,ae hn 6 _ rfl⟩
theorem gV(E:Env)(ov:Value)(S:Ms)(op d s im ax bk sz:Int)(w:World)(h:Mc E ov S w)(hm:U16 im):
  Calls Tryz.prog 147 #[.pointer (some ⟨E.b,0,none⟩),.agg #[.int .i64 op,.int .i64 d,.int .i64 s,.int .u16 im,.int .u16 ax,.int .i64 bk,.int .i64 sz]] w fun e w'=>NP S (lF S op im) e∧Below w.heap.size w w':=by
 have hA:=h.alloc (.cells #[.int .i64 op,.int .i64 d,.int .i64 s,.int .u16 im,.int .u16 ax,.int .i64 bk,.int .i64 sz] 58);have HB:=Nc ((Below.refl _ w).alloc (Nat.le_refl _) (.cells #[.int .i64 op,.int .i64 d,.int .i64 s,.int .u16 im,.int .u16 ax,.int .i64 bk,.int .i64 sz] 58));obtain⟨n0,n1,n2,n3,n4,n5,n6⟩:=aG w op d s im ax bk sz;have c16:=hA.c16;have c17:=hA.c17;have hlt:=h.lt;have hne:E.b≠w.heap.size:=by omega
 obtain⟨f0,f1⟩:=h.ok.fp;have hs:=h.ok.sp;obtain⟨m0,m1⟩:=hm;have hsg:=ed im m0 m1;have hsb: -32768≤sgn im∧sgn im < 32768:=by unfold sgn;split<;>omega
 have HN:=Nc (show lF S op im=if op=162∨op=163 then S.fp+sgn im else(S.sp:Int)-1-im from rfl);obtain⟨n,hn⟩:∃ n,lF S op im=n:=⟨_,rfl⟩;rw[hn] at HN⊢;obtain⟨g,hg⟩:∃ g,sgn im=g:=⟨_,rfl⟩;rw[hg] at HN hsg hsb;obtain⟨fp,hfp⟩:∃ fp,S.fp=fp:=⟨_,rfl⟩;rw[hfp] at HN c17 f0 f1;have HNP:=Nc (fun (q:0≤n∧n < (S.sp:Int))=>NP.y (S:=S) (e:= .returned (.int .i64 n)) q rfl);have HNN:=Nc (fun (q:¬ (0≤n∧n < (S.sp:Int)))=>NP.n (S:=S) (n:=n) (e:= .panicked (dQ 5 0)) q rfl);have hs':((S.sp:Nat):Int)≤4096:=by omega
 obtain⟨p,hp⟩:∃ p:Int,((S.sp:Nat):Int)=p:=⟨_,rfl⟩;have p0:0≤p:=by omega
 rw[hp] at HN c16 HNP HNN hs';clear h hA hn hg hfp hs hp;obtain⟨hsb0,hsb1⟩:=hsb;by_cases q1:op=162
 ·have hN:n=fp+g:=HN.out.trans (if_pos (Or.inl q1))
  subst q1;clear HN;by_cases qa:0≤n
  ·by_cases qb:n < p
   ·have HY:=Nc (HNP.out ⟨qa,qb⟩)
    subst hN;go_enter Tryz.func147,Tryz.ntmps147
    go_wp2_with fail
    go_region
    go_wp2_with fail
    go_region
    go_wp2_with fail
    refine(dw _ _ _).mono ?_;rintro e w3 ⟨rfl,rfl⟩;go_wp2_with fail
    go_ret
    exact⟨HY.out,(by first | exact HB.out.drew.drew | exact HB.out.drew)⟩
   ·have HY:=Nc (HNN.out fun c=>qb c.2)
    subst hN;have dq:=decide_eq_false qb;go_enter Tryz.func147,Tryz.ntmps147
    go_wp2_with fail
    go_region
    go_wp2_with fail
    go_region
    go_wp2_with fail
    refine(bH _ _ _).mono ?_;rintro e w3 ⟨rfl,rfl⟩;go_wp2_with fail
    exact⟨rfl,HY.out,(by first | exact HB.out.drew.drew | exact HB.out.drew)⟩
  ·have HY:=Nc (HNN.out fun c=>qa c.1)
   subst hN;have dq:=decide_eq_false qa;go_enter Tryz.func147,Tryz.ntmps147
   go_wp2_with fail
   go_region
   go_wp2_with fail
   go_region
   go_wp2_with fail
   refine(bH _ _ _).mono ?_;rintro e w3 ⟨rfl,rfl⟩;go_wp2_with fail
   exact⟨rfl,HY.out,(by first | exact HB.out.drew.drew | exact HB.out.drew)⟩
 by_cases q2:op=163
 ·have hN:n=fp+g:=HN.out.trans (if_pos (Or.inr q2))
  subst q2;clear q1;clear HN;by_cases qa:0≤n
  ·by_cases qb:n < p
   ·have HY:=Nc (HNP.out ⟨qa,qb⟩)
    subst hN;go_enter Tryz.func147,Tryz.ntmps147
    go_wp2_with fail
    go_region
    go_wp2_with fail
    go_region
    go_wp2_with fail
    refine(dw _ _ _).mono ?_;rintro e w3 ⟨rfl,rfl⟩;go_wp2_with fail
    go_ret
    exact⟨HY.out,(by first | exact HB.out.drew.drew | exact HB.out.drew)⟩
   ·have HY:=Nc (HNN.out fun c=>qb c.2)
    subst hN;have dq:=decide_eq_false qb;go_enter Tryz.func147,Tryz.ntmps147
    go_wp2_with fail
    go_region
    go_wp2_with fail
    go_region
    go_wp2_with fail
    refine(bH _ _ _).mono ?_;rintro e w3 ⟨rfl,rfl⟩;go_wp2_with fail
    exact⟨rfl,HY.out,(by first | exact HB.out.drew.drew | exact HB.out.drew)⟩
  ·have HY:=Nc (HNN.out fun c=>qa c.1)
   subst hN;have dq:=decide_eq_false qa;go_enter Tryz.func147,Tryz.ntmps147
   go_wp2_with fail
   go_region
   go_wp2_with fail
   go_region
   go_wp2_with fail
   refine(bH _ _ _).mono ?_;rintro e w3 ⟨rfl,rfl⟩;go_wp2_with fail
   exact⟨rfl,HY.out,(by first | exact HB.out.drew.drew | exact HB.out.drew)⟩
 ·have hN:n=p-1-im:=HN.out.trans (if_neg (by omega))
  have r1:(op==162)=false:=by simpa using q1
  have r2:(op==163)=false:=by simpa using q2
  clear q1 q2;clear HN;by_cases qa:0≤n
  ·by_cases qb:n < p
   ·have HY:=Nc (HNP.out ⟨qa,qb⟩)
    subst hN;go_enter Tryz.func147,Tryz.ntmps147
    go_wp2_with fail
    go_region
    go_wp2_with fail
    refine(dw _ _ _).mono ?_;rintro e w3 ⟨rfl,rfl⟩;go_wp2_with fail
    go_ret
    exact⟨HY.out,(by first | exact HB.out.drew.drew | exact HB.out.drew)⟩
   ·exact absurd (show n < p by omega) qb
  ·have HY:=Nc (HNN.out fun c=>qa c.1)
   subst hN;have dq:=decide_eq_false qa;go_enter Tryz.func147,Tryz.ntmps147
   go_wp2_with fail
   go_region
   go_wp2_with fail
   refine(bH _ _ _).mono ?_;rintro e w3 ⟨rfl,rfl⟩;go_wp2_with fail
   exact⟨rfl,HY.out,(by first | exact HB.out.drew.drew | exact HB.out.drew)⟩
theorem AY(S:Ms):∀ k,(zs S k).sp=S.sp+k
 | 0=>rfl
 | k+1=>by simp only[zs,psh,AY S k];omega
theorem AZ(S:Ms):∀ k,(zs S k).ram=S.ram
 | 0=>rfl
 | k+1=>AZ S k
theorem wQ(S:Ms):∀ k,(zs S k).out=S.out
 | 0=>rfl
 | k+1=>wQ S k
theorem AX(S:Ms)(j:Nat)(hj:j < S.sp):∀ k,(zs S k).stk j=S.stk j
 | 0=>rfl
 | k+1=>(upd_ne _ _ (by rw[AY];omega)).trans (AX S j hj k)
theorem rC(E:Env)(ov:Value)(S:Ms)(n:Int)(w:World)(h:Mc E ov S w)(hn:U16 n):
  Calls Tryz.prog 145 #[.pointer (some ⟨E.b,0,none⟩),.int .u16 n] w fun e w'=>Post E ov S w (iG S n) e w':=by
 have H:=Nc h;have c17:=h.c17;have hfp:=Nc h.ok.fp;have hsp:=h.ok.sp;obtain⟨m,rfl⟩:∃ m:Nat,n=m:=⟨n.toNat,by have:=hn.1;omega⟩;have hm:(m:Int) < 65536:=hn.2;have HR:=Nc (show iG S (m:Int)=if (S.sp:Int)+1+(m:Int)≤4096 then .ok (zs {psh S S.fp with fp:=S.sp+1} m) else .tr 5 0 from rfl);obtain⟨r,hr⟩:∃ r,iG S (m:Int)=r:=⟨_,rfl⟩;rw[hr] at HR⊢;clear h hr hn;by_cases s1:S.sp < 4096
 ·go_enter Tryz.func145,Tryz.ntmps145
  go_wp2_with fail
  refine(jc E ov S S.fp _ H.out hfp.out s1).mono ?_;rintro e w1 ⟨rfl,hm1,hg⟩;obtain⟨S2,hS2⟩:∃ S2:Ms,({psh S S.fp with fp:=S.sp+1} :Ms)=S2:=⟨_,rfl⟩;have hm2:Mc E ov S2 (w1.setCell ⟨E.b,17,none⟩ (.int .u16 ((S.sp:Int)+1))):=hS2▸hm1.kW ((S.sp:Int)+1) ⟨by omega,by omega⟩;have HS2:=Nc (show S2.sp=S.sp+1∧S2.ram=S.ram∧S2.out=S.out∧∀ j,j < S.sp→S2.stk j=S.stk j from by subst hS2;exact⟨rfl,rfl,rfl,fun j hj=>upd_ne _ _ (by omega)⟩);have HM:=Nc (And.intro hm2 (ag hg 17 (.int .u16 ((S.sp:Int)+1))));have c16:w1.cell? ⟨E.b,16,none⟩=some (.int .u16 ((S.sp:Int)+1)):=hm1.c16;have hf:=hm1.frz;have c17':w1.cell? ⟨E.b,17,none⟩=some (.int .u16 S.fp):=hm1.c17;rw[hS2] at HR;clear c17 hm1 hg hm2 hS2;go_wp2_with fail
  obtain⟨W,hW⟩:∃ W,w1.setCell ⟨E.b,17,none⟩ (.int .u16 ((S.sp:Int)+1))=W:=⟨_,rfl⟩;rw[hW] at HM⊢;clear hW c16 hf c17';have HKp:=Nc (fun k=>(⟨(AZ S2 k).trans HS2.out.2.1,(wQ S2 k).trans HS2.out.2.2.1,fun j hj=>(AX S2 j (by have:=HS2.out.1;omega) k).trans (HS2.out.2.2.2 j hj)⟩:Kp S (zs S2 k)));have HSp:=Nc (fun k=>(AY S2 k).trans (by rw[HS2.out.1]));go_loopw [21] (fun i wr=>∃ k:Nat,k≤m∧i= .int .u16 k∧Hid (Mc E ov (zs S2 k) wr∧w.grownBy wr (some E.b))∧Hid (S.sp+1+k≤4096)) (fun i _=>m-(intOf i).toNat)
  case atStart=>exact⟨0,Nat.zero_le _,rfl,HM,Nc (by omega)⟩
  case round=>
   obtain⟨k,hk,rfl,HK,HL⟩:=hrel;by_cases hlt:k < m
   ·have hlt':(k:Int) < (m:Int):=by omega
    go_wp2_with fail
    by_cases s3:S.sp+1+k < 4096
    ·refine(jc E ov (zs S2 k) 0 _ HK.out.1 ⟨by decide,by decide⟩ (by rw[HSp.out];exact s3)).mono ?_
     rintro e w2 ⟨rfl,hm2,hg2⟩;have HK2:=Nc (And.intro hm2 (aS HK.out.2 hg2));clear hm2 hg2;go_wp2_with fail
     go_roundw
     case rel=>exact⟨k+1,hlt,by go_num,HK2,Nc (by omega)⟩
     case measure=>simp[intOf];omega
    ·refine(jd E ov (zs S2 k) 0 _ HK.out.1 (by rw[HSp.out];omega)).mono ?_
     rintro e w2 ⟨rfl,rfl⟩;go_wp2_with fail
     exact⟨rfl,Post.trr (HR.out.trans (if_neg (by omega))) rfl HK.out.1 (HKp.out k) HK.out.2⟩
   ·have hkm:k=m:=by omega
    subst hkm;go_wp2_with fail
    go_end0
    exact Post.okk (HR.out.trans (if_pos (by have:=HL.out;omega))) rfl HK.out.1 HK.out.2
 ·go_enter Tryz.func145,Tryz.ntmps145
  go_wp2_with fail
  refine(jd E ov S S.fp _ H.out (by omega)).mono ?_;rintro e w1 ⟨rfl,rfl⟩;go_wp2_with fail
  exact⟨rfl,Post.trr (HR.out.trans (if_neg (by omega))) rfl H.out (Kp.refl S) (ah _ _)⟩
theorem qQ(E:Env)(ov:Value)(S:Ms)(w:World)(h:Mc E ov S w):
  Calls Tryz.prog 146 #[.pointer (some ⟨E.b,0,none⟩)] w fun e w'=>Post E ov S w (iE S) e w':=by
 have H:=Nc h;have c17:=h.c17;have c16:=h.c16;have hf:=h.frz;have hfp:=h.ok.fp;have hsp:=h.ok.sp;have HR:=Nc (show iE S=if 0 < S.fp∧S.fp≤(S.sp:Int) then .ok {S with fp:=S.stk (S.fp.toNat-1),sp:=S.fp.toNat-1} else .tr 5 0 from rfl);obtain⟨r,hr⟩:∃ r,iE S=r:=⟨_,rfl⟩;rw[hr] at HR⊢;obtain⟨f0,f1⟩:=hfp;have HST:=Nc h.ok.stk;obtain⟨fp,hfp⟩:∃ fp,S.fp=fp:=⟨_,rfl⟩;obtain⟨p,hp⟩:∃ p:Int,(S.sp:Int)=p:=⟨_,rfl⟩;rw[hfp,hp] at HR;rw[hfp] at c17 f0 f1;rw[hp] at c16;have p0:0≤p:=by omega
 have p1:p≤4096:=by omega
 have HFP:=Nc hfp;clear h hr hp hfp hsp;have hS1:=Nc (And.intro c16 c17);by_cases q1:0 < fp
 ·by_cases q2:fp≤p
  ·have dq:=decide_eq_true q2
   go_enter Tryz.func146,Tryz.ntmps146
   go_wp2_with fail
   refine wp_region_held_drew (S:=fun w'=>w'.cell? ⟨E.b,16,none⟩=some (.int .u16 p)∧w'.cell? ⟨E.b,17,none⟩=some (.int .u16 fp)) (by kernel_rfl) (hS1.out) (fun hHeld=>?_);refine tq 0 rfl ?_;refine tq 1 rfl ?_;refine tq 2 rfl ?_;refine tq 3 rfl ?_;refine tq 4 rfl ?_;refine tq 5 rfl ?_;refine tq 6 rfl ?_;refine tq 7 rfl ?_;refine tq 8 rfl ?_;refine tq 9 rfl ?_;refine tq 10 rfl ?_;refine tq 11 rfl ?_;refine tq 12 rfl ?_;refine tq 13 rfl ?_;refine tq 14 rfl ?_;refine tq 15 rfl ?_;refine tq 16 rfl ?_;refine tq 17 rfl ?_;refine tq 18 rfl ?_;refine rd1 19 rfl (fun K hK=>?_);go_simp
   ((go_at_call 61;(with_reducible refine(dw _ _ _).mono ?_));rintro e w1 ⟨rfl,rfl⟩)
   go_wp2_with fail
   refine hK.out _ _ (hS1.out) (fun hHeld=>?_);clear hK K
   try simp only[lay]
   refine wpAnyH_done (by kernel_rfl) ?_ _;obtain⟨k,hk⟩:∃ k:Nat,fp=(k:Int)+1:=⟨(fp-1).toNat,by omega⟩;have HX:=Nc (H.out.drew.vz (k+1) (by omega));have hfz:=H.out.drew.frz;subst hk;have hK:w.drew.setCell ⟨E.b,16,none⟩ (.int .u16 ((k+1:Nat):Int))=w.drew.setCell ⟨E.b,16,none⟩ (.int .u16 ((k:Int)+1)):=rfl;rw[hK] at HX;obtain⟨wd,hwd⟩:∃ wd,w.drew=wd:=⟨_,rfl⟩;have HG:=Nc (aO (ah w (some E.b)));rw[hwd] at HX hfz HG⊢;have d16:wd.cell? ⟨E.b,16,none⟩=some (.int .u16 p):=by rw[← hwd];exact c16
   have d17:wd.cell? ⟨E.b,17,none⟩=some (.int .u16 ((k:Int)+1)):=by rw[← hwd];exact c17
   clear c16 c17 hf hS1 hK hwd dq;go_wp2_with fail
   refine(kw E ov _ _ HX.out (Nat.succ_pos k)).mono ?_;rintro e w2 ⟨rfl,hm2,hg2⟩;have hv:=HST.out k (by omega);simp only[Nat.add_sub_cancel] at hm2⊢;obtain⟨v,hv'⟩:∃ v,S.stk k=v:=⟨_,rfl⟩;rw[hv'] at hv⊢;have HY:=Nc (hm2.kW v hv);have HG2:=Nc (ag (aS (ag HG.out 16 (.int .u16 ((k:Int)+1))) hg2) 17 (.int .u16 v));have e17:w2.cell? ⟨E.b,17,none⟩=some (.int .u16 S.fp):=hm2.c17;have ef:=hm2.frz;have HV:=Nc hv';clear hm2 hg2 hv hv' hfz;go_wp2_with fail
   go_end0
   refine Post.okk (HR.out.trans ((if_pos ⟨q1,q2⟩).trans ?_)) rfl HY.out HG2.out;have hk1:(S.fp.toNat-1)=k:=by rw[HFP.out];omega
   have hk2:(((k:Int)+1).toNat-1)=k:=by omega
   simp only[hk2,HV.out]
  ·have dq:=decide_eq_false q2
   go_enter Tryz.func146,Tryz.ntmps146
   go_wp2_with fail
   refine wp_region_held_drew (S:=fun w'=>w'.cell? ⟨E.b,16,none⟩=some (.int .u16 p)∧w'.cell? ⟨E.b,17,none⟩=some (.int .u16 fp)) (by kernel_rfl) (hS1.out) (fun hHeld=>?_);refine tq 0 rfl ?_;refine tq 1 rfl ?_;refine tq 2 rfl ?_;refine tq 3 rfl ?_;refine tq 4 rfl ?_;refine tq 5 rfl ?_;refine tq 6 rfl ?_;refine tq 7 rfl ?_;refine tq 8 rfl ?_;refine tq 9 rfl ?_;refine tq 10 rfl ?_;refine tq 11 rfl ?_;refine tq 12 rfl ?_;refine tq 13 rfl ?_;refine tq 14 rfl ?_;refine tq 15 rfl ?_;refine tq 16 rfl ?_;refine tq 17 rfl ?_;refine tq 18 rfl ?_;refine rd1 19 rfl (fun K hK=>?_);go_simp
   ((go_at_call 61;(with_reducible refine(bH _ _ _).mono ?_));rintro e w1 ⟨rfl,rfl⟩)
   go_wp2_with fail
   exact⟨rfl,Post.trr (HR.out.trans (if_neg (by omega))) rfl H.out.drew (Kp.refl S) (aO (ah _ _))⟩
 ·have dq:=decide_eq_false q1
  go_enter Tryz.func146,Tryz.ntmps146
  go_wp2_with fail
  refine wp_region_held_drew (S:=fun w'=>w'.cell? ⟨E.b,16,none⟩=some (.int .u16 p)∧w'.cell? ⟨E.b,17,none⟩=some (.int .u16 fp)) (by kernel_rfl) (hS1.out) (fun hHeld=>?_);refine tq 0 rfl ?_;refine tq 1 rfl ?_;refine tq 2 rfl ?_;refine tq 3 rfl ?_;refine tq 4 rfl ?_;refine tq 5 rfl ?_;refine tq 6 rfl ?_;refine tk 7 undef rfl (Or.inr ⟨by rfl,rfl⟩) ?_;refine tk 8 undef rfl (Or.inr ⟨by rfl,rfl⟩) ?_;refine tk 9 undef rfl (Or.inr ⟨by rfl,rfl⟩) ?_;refine tk 10 undef rfl (Or.inr ⟨by rfl,rfl⟩) ?_;refine tk 11 undef rfl (Or.inr ⟨by rfl,rfl⟩) ?_;refine tk 12 undef rfl (Or.inr ⟨by rfl,rfl⟩) ?_;refine tk 13 undef rfl (Or.inr ⟨by rfl,rfl⟩) ?_;refine tk 14 undef rfl (Or.inr ⟨by rfl,rfl⟩) ?_;refine tk 15 undef rfl (Or.inr ⟨by rfl,rfl⟩) ?_;refine tk 16 undef rfl (Or.inr ⟨by rfl,rfl⟩) ?_;refine tk 17 undef rfl (Or.inr ⟨by rfl,rfl⟩) ?_;refine tq 18 rfl ?_;refine rd1 19 rfl (fun K hK=>?_);go_simp
  ((go_at_call 61;(with_reducible refine(bH _ _ _).mono ?_));rintro e w1 ⟨rfl,rfl⟩)
  go_wp2_with fail
  exact⟨rfl,Post.trr (HR.out.trans (if_neg (by omega))) rfl H.out.drew (Kp.refl S) (aO (ah _ _))⟩
end Go.Proofs.YthkcloapiefggaaGreatDoor
