import Derived.Test.YthkcloapiefggaaGreatDoorQUse
namespace Go.Proofs.YthkcloapiefggaaGreatDoor
set_option linter.unusedVariables false
set_option linter.unusedSimpArgs false
set_option maxRecDepth 100000
set_option maxHeartbeats 1000000
open Go.ChangeShapes Go.WideShapes Go.RowKit
theorem Il{I:Im}{S S':Ms}{t n:Int}(h:iW I S t n= .ok S'):S'.r=S.r:=by
 unfold iW at h;cases hv:wdP (cbB I S) (cbV I S) ((t+2*n)%65536) with
 | ok v=>rw[hv] at h;simp only[Vl.to,Rs.ok.injEq] at h;subst h;rfl
 | tr a b=>rw[hv] at h;simp[Vl.to] at h
theorem Dw(E:Env)(ov:Value)(S:Ms)(k:Nat)(s im ax bk sz:Int)(w:World)(h:Mc E ov S w)(hd:k < 8)(hm:U16 im)(hx:U16 ax):
  Calls Tryz.prog 111 #[.pointer (some ⟨E.b,0,none⟩),.agg #[.int .i64 128,.int .i64 (k:Int),.int .i64 s,.int .u16 im,.int .u16 ax,.int .i64 bk,.int .i64 sz]] w fun e w'=>Post E ov S w (.ok (jmp S im)) e w':=by
 have hlt:=h.lt;have hne:E.b≠w.heap.size:=by omega
 have HI:=Nc (aG w 128 (k:Int) s im ax bk sz);have H:=Nc (h.alloc (.cells #[.int .i64 128,.int .i64 (k:Int),.int .i64 s,.int .u16 im,.int .u16 ax,.int .i64 bk,.int .i64 sz] 58));have HG:=Nc (aJ (ah w (some E.b)) (.cells #[.int .i64 128,.int .i64 (k:Int),.int .i64 s,.int .u16 im,.int .u16 ax,.int .i64 bk,.int .i64 sz] 58));have HW:=Nc (show(w.alloc (.cells #[.int .i64 128,.int .i64 (k:Int),.int .i64 s,.int .u16 im,.int .u16 ax,.int .i64 bk,.int .i64 sz] 58)).heap.size=w.heap.size+1 by simp);obtain⟨n0,n1,n2,n3,n4,n5,n6⟩:=HI.out;have c15:=H.out.c15;have hf:=H.out.frz;obtain⟨m0,m1⟩:=hm;have hpc:=h.ok.pc;have HX:=Nc (H.out.dF ((S.pc+im)%65536) (dU _));have HJ:=Nc (show jmp S im={S with pc:=(S.pc+im)%65536} from rfl);obtain⟨p,hp⟩:∃ p,S.pc=p:=⟨_,rfl⟩;rw[hp] at c15 hpc HX HJ;obtain⟨p0,p1⟩:=hpc;have hw:IntKind.u16.wrap (p+im)=(p+im)%65536:=IntKind.wrap_u16 _;have hp2:=hp;clear hp;have HX2:=Nc (HJ.out▸((hp2▸h.dF ((S.pc+im)%65536) (dU _):Mc E ov {S with pc:=(p+im)%65536} (w.setCell ⟨E.b,15,none⟩ (.int .u16 ((p+im)%65536)))).alloc (.cells #[.int .i64 128,.int .i64 (k:Int),.int .i64 s,.int .u16 im,.int .u16 ax,.int .i64 bk,.int .i64 sz] 58)).drew);clear h hp2;go_enter Tryz.func111,Tryz.ntmps111
 go_wp2_with fail
 go_region
 go_wp2_with fail
 go_end0
 exact Post.okk rfl rfl HX2.out (aO (aJ (ag (ah _ _) _ _) _))
theorem Dv(E:Env)(ov:Value)(S:Ms)(k:Nat)(s im ax bk sz:Int)(w:World)(h:Mc E ov S w)(hd:k < 8)(hm:U16 im)(hx:U16 ax):
  Calls Tryz.prog 111 #[.pointer (some ⟨E.b,0,none⟩),.agg #[.int .i64 129,.int .i64 (k:Int),.int .i64 s,.int .u16 im,.int .u16 ax,.int .i64 bk,.int .i64 sz]] w fun e w'=>Post E ov S w (.ok (jmp S im)) e w':=by
 have hlt:=h.lt;have hne:E.b≠w.heap.size:=by omega
 have HI:=Nc (aG w 129 (k:Int) s im ax bk sz);have H:=Nc (h.alloc (.cells #[.int .i64 129,.int .i64 (k:Int),.int .i64 s,.int .u16 im,.int .u16 ax,.int .i64 bk,.int .i64 sz] 58));have HG:=Nc (aJ (ah w (some E.b)) (.cells #[.int .i64 129,.int .i64 (k:Int),.int .i64 s,.int .u16 im,.int .u16 ax,.int .i64 bk,.int .i64 sz] 58));have HW:=Nc (show(w.alloc (.cells #[.int .i64 129,.int .i64 (k:Int),.int .i64 s,.int .u16 im,.int .u16 ax,.int .i64 bk,.int .i64 sz] 58)).heap.size=w.heap.size+1 by simp);obtain⟨n0,n1,n2,n3,n4,n5,n6⟩:=HI.out;have c15:=H.out.c15;have hf:=H.out.frz;obtain⟨m0,m1⟩:=hm;have hpc:=h.ok.pc;have HX:=Nc (H.out.dF ((S.pc+im)%65536) (dU _));have HJ:=Nc (show jmp S im={S with pc:=(S.pc+im)%65536} from rfl);obtain⟨p,hp⟩:∃ p,S.pc=p:=⟨_,rfl⟩;rw[hp] at c15 hpc HX HJ;obtain⟨p0,p1⟩:=hpc;have hw:IntKind.u16.wrap (p+im)=(p+im)%65536:=IntKind.wrap_u16 _;have hp2:=hp;clear hp;have HX2:=Nc (HJ.out▸((hp2▸h.dF ((S.pc+im)%65536) (dU _):Mc E ov {S with pc:=(p+im)%65536} (w.setCell ⟨E.b,15,none⟩ (.int .u16 ((p+im)%65536)))).alloc (.cells #[.int .i64 129,.int .i64 (k:Int),.int .i64 s,.int .u16 im,.int .u16 ax,.int .i64 bk,.int .i64 sz] 58)).drew);clear h hp2;go_enter Tryz.func111,Tryz.ntmps111
 go_wp2_with fail
 go_region
 go_wp2_with fail
 go_end0
 exact Post.okk rfl rfl HX2.out (aO (aJ (ag (ah _ _) _ _) _))
theorem Du(E:Env)(ov:Value)(S:Ms)(k:Nat)(s im ax bk sz:Int)(w:World)(h:Mc E ov S w)(hd:k < 8)(hm:U16 im)(hx:U16 ax):
  Calls Tryz.prog 111 #[.pointer (some ⟨E.b,0,none⟩),.agg #[.int .i64 130,.int .i64 (k:Int),.int .i64 s,.int .u16 im,.int .u16 ax,.int .i64 bk,.int .i64 sz]] w fun e w'=>Post E ov S w (room S 2 (jmp (bJ S) im)) e w':=by
 have hlt:=h.lt;have hne:E.b≠w.heap.size:=by omega
 have HI:=Nc (aG w 130 (k:Int) s im ax bk sz);have H:=Nc (h.alloc (.cells #[.int .i64 130,.int .i64 (k:Int),.int .i64 s,.int .u16 im,.int .u16 ax,.int .i64 bk,.int .i64 sz] 58));have HG:=Nc (aJ (ah w (some E.b)) (.cells #[.int .i64 130,.int .i64 (k:Int),.int .i64 s,.int .u16 im,.int .u16 ax,.int .i64 bk,.int .i64 sz] 58));have HW:=Nc (show(w.alloc (.cells #[.int .i64 130,.int .i64 (k:Int),.int .i64 s,.int .u16 im,.int .u16 ax,.int .i64 bk,.int .i64 sz] 58)).heap.size=w.heap.size+1 by simp);have HR:=Nc (show room S 2 (jmp (bJ S) im)=if S.sp+2≤4096 then .ok (jmp (bJ S) im) else .tr 5 0 from rfl);obtain⟨r,hr⟩:∃ r,room S 2 (jmp (bJ S) im)=r:=⟨_,rfl⟩;rw[hr] at HR⊢;obtain⟨n0,n1,n2,n3,n4,n5,n6⟩:=HI.out;have hpc:=h.ok.pc;obtain⟨m0,m1⟩:=hm;clear h hr;by_cases q:S.sp+2≤4096
 ·have HR1:=Nc (HR.out.trans (if_pos q))
  go_enter Tryz.func111,Tryz.ntmps111
  go_wp2_with fail
  refine(fC E ov S _ H.out).mono ?_;rintro e w1 hp1;rw[show room S 2 (bJ S)= .ok (bJ S) from if_pos q] at hp1;obtain⟨rfl,hm1,hg1⟩:=hp1;have HM1:=Nc hm1;have HG1:=Nc (aS HG.out hg1);have HB1:=Nc (Bxi.kept HI.out hg1 hne);clear hm1 hg1;obtain⟨S1,hS1⟩:∃ S1,bJ S=S1:=⟨_,rfl⟩;have hpc1:S1.pc=S.pc:=by rw[← hS1];rfl
  rw[hS1] at HM1 HR1;have HX:=Nc (HM1.out.dF ((S1.pc+im)%65536) (dU _));obtain⟨p,hp⟩:∃ p,S1.pc=p:=⟨_,rfl⟩;have c15:=HM1.out.c15;have hf:=HM1.out.frz;rw[hp] at HX c15;rw[← hpc1,hp] at hpc;obtain⟨p0,p1⟩:=hpc;have HP:=Nc hp;have hw:IntKind.u16.wrap (p+im)=(p+im)%65536:=IntKind.wrap_u16 _;obtain⟨d0,d1,d2,d3,d4,d5,d6⟩:=HB1.out;clear hp hS1 hpc1 n0 n1 n2 n3 n4 n5 n6;go_wp2_with fail
  go_region
  go_wp2_with fail
  go_end0
  refine Post.okk (HR1.out.trans ?_) rfl HX.out.drew (aO (ag HG1.out _ _));simp only[jmp,HP.out]
 ·go_enter Tryz.func111,Tryz.ntmps111
  go_wp2_with fail
  refine(fC E ov S _ H.out).mono ?_;rintro e w1 hp1;rw[show room S 2 (bJ S)= .tr 5 0 from if_neg q] at hp1;obtain⟨rfl,S',hm1,hk1,hg1⟩:=hp1;have HM1:=Nc hm1;have HK1:=Nc hk1;have HG1:=Nc (aS HG.out hg1);clear hm1 hg1 hk1;go_wp2_with fail
  exact⟨rfl,Post.trr (HR.out.trans (if_neg q)) rfl HM1.out HK1.out HG1.out⟩
theorem Dt(E:Env)(ov:Value)(S:Ms)(k:Nat)(s im ax bk sz:Int)(w:World)(h:Mc E ov S w)(hd:k < 8)(hm:U16 im)(hx:U16 ax):
  Calls Tryz.prog 111 #[.pointer (some ⟨E.b,0,none⟩),.agg #[.int .i64 131,.int .i64 (k:Int),.int .i64 s,.int .u16 im,.int .u16 ax,.int .i64 bk,.int .i64 sz]] w fun e w'=>Post E ov S w (.ok (gq S bk im)) e w':=by
 have hlt:=h.lt;have hne:E.b≠w.heap.size:=by omega
 have HI:=Nc (aG w 131 (k:Int) s im ax bk sz);have H:=Nc (h.alloc (.cells #[.int .i64 131,.int .i64 (k:Int),.int .i64 s,.int .u16 im,.int .u16 ax,.int .i64 bk,.int .i64 sz] 58));have HG:=Nc (aJ (ah w (some E.b)) (.cells #[.int .i64 131,.int .i64 (k:Int),.int .i64 s,.int .u16 im,.int .u16 ax,.int .i64 bk,.int .i64 sz] 58));have HW:=Nc (show(w.alloc (.cells #[.int .i64 131,.int .i64 (k:Int),.int .i64 s,.int .u16 im,.int .u16 ax,.int .i64 bk,.int .i64 sz] 58)).heap.size=w.heap.size+1 by simp);obtain⟨n0,n1,n2,n3,n4,n5,n6⟩:=HI.out;have HM:=Nc hm;clear h;go_enter Tryz.func111,Tryz.ntmps111
 go_wp2_with fail
 refine(sJ E ov S bk im _ H.out HM.out).mono ?_;rintro e w1 ⟨rfl,hm1,hg1⟩;have HM1:=Nc hm1;have HG1:=Nc (aS HG.out hg1);clear hm1 hg1;go_wp2_with fail
 go_end0
 exact Post.okk rfl rfl HM1.out HG1.out
theorem Dq(E:Env)(ov:Value)(S:Ms)(k:Nat)(s im ax bk sz:Int)(w:World)(h:Mc E ov S w)(hd:k < 8)(hm:U16 im)(hx:U16 ax):
  Calls Tryz.prog 111 #[.pointer (some ⟨E.b,0,none⟩),.agg #[.int .i64 132,.int .i64 (k:Int),.int .i64 s,.int .u16 im,.int .u16 ax,.int .i64 bk,.int .i64 sz]] w fun e w'=>Post E ov S w (room S 2 (gq (bJ S) bk im)) e w':=by
 have hlt:=h.lt;have hne:E.b≠w.heap.size:=by omega
 have HI:=Nc (aG w 132 (k:Int) s im ax bk sz);have H:=Nc (h.alloc (.cells #[.int .i64 132,.int .i64 (k:Int),.int .i64 s,.int .u16 im,.int .u16 ax,.int .i64 bk,.int .i64 sz] 58));have HG:=Nc (aJ (ah w (some E.b)) (.cells #[.int .i64 132,.int .i64 (k:Int),.int .i64 s,.int .u16 im,.int .u16 ax,.int .i64 bk,.int .i64 sz] 58));have HW:=Nc (show(w.alloc (.cells #[.int .i64 132,.int .i64 (k:Int),.int .i64 s,.int .u16 im,.int .u16 ax,.int .i64 bk,.int .i64 sz] 58)).heap.size=w.heap.size+1 by simp);have HR:=Nc (show room S 2 (gq (bJ S) bk im)=if S.sp+2≤4096 then .ok (gq (bJ S) bk im) else .tr 5 0 from rfl);obtain⟨r,hr⟩:∃ r,room S 2 (gq (bJ S) bk im)=r:=⟨_,rfl⟩;rw[hr] at HR⊢;obtain⟨n0,n1,n2,n3,n4,n5,n6⟩:=HI.out;have HM:=Nc hm;clear h hr;by_cases q:S.sp+2≤4096
 ·have HR1:=Nc (HR.out.trans (if_pos q))
  go_enter Tryz.func111,Tryz.ntmps111
  go_wp2_with fail
  refine(fC E ov S _ H.out).mono ?_;rintro e w1 hp1;rw[show room S 2 (bJ S)= .ok (bJ S) from if_pos q] at hp1;obtain⟨rfl,hm1,hg1⟩:=hp1;have HM1:=Nc hm1;have HG1:=Nc (aS HG.out hg1);have HB1:=Nc (Bxi.kept HI.out hg1 hne);clear hm1 hg1;obtain⟨d0,d1,d2,d3,d4,d5,d6⟩:=HB1.out;clear n0 n1 n2 n3 n4 n5 n6;go_wp2_with fail
  refine(sJ E ov _ bk im _ HM1.out HM.out).mono ?_;rintro e w2 ⟨rfl,hm2,hg2⟩;have HM2:=Nc hm2;have HG2:=Nc (aS HG1.out hg2);clear hm2 hg2;go_wp2_with fail
  go_end0
  exact Post.okk HR1.out rfl HM2.out HG2.out
 ·go_enter Tryz.func111,Tryz.ntmps111
  go_wp2_with fail
  refine(fC E ov S _ H.out).mono ?_;rintro e w1 hp1;rw[show room S 2 (bJ S)= .tr 5 0 from if_neg q] at hp1;obtain⟨rfl,S',hm1,hk1,hg1⟩:=hp1;have HM1:=Nc hm1;have HK1:=Nc hk1;have HG1:=Nc (aS HG.out hg1);clear hm1 hg1 hk1;go_wp2_with fail
  exact⟨rfl,Post.trr (HR.out.trans (if_neg q)) rfl HM1.out HK1.out HG1.out⟩
theorem IZ(E:Env)(ov:Value)(S:Ms)(k:Nat)(s im ax bk sz:Int)(w:World)(h:Mc E ov S w)(hd:k < 8)(hm:U16 im)(hx:U16 ax):
  Calls Tryz.prog 111 #[.pointer (some ⟨E.b,0,none⟩),.agg #[.int .i64 1,.int .i64 (k:Int),.int .i64 s,.int .u16 im,.int .u16 ax,.int .i64 bk,.int .i64 sz]] w fun e w'=>Post E ov S w (oN S) e w':=by
 have hlt:=h.lt;have hne:E.b≠w.heap.size:=by omega
 have HI:=Nc (aG w 1 (k:Int) s im ax bk sz);have H:=Nc (h.alloc (.cells #[.int .i64 1,.int .i64 (k:Int),.int .i64 s,.int .u16 im,.int .u16 ax,.int .i64 bk,.int .i64 sz] 58));have HG:=Nc (aJ (ah w (some E.b)) (.cells #[.int .i64 1,.int .i64 (k:Int),.int .i64 s,.int .u16 im,.int .u16 ax,.int .i64 bk,.int .i64 sz] 58));have HW:=Nc (show(w.alloc (.cells #[.int .i64 1,.int .i64 (k:Int),.int .i64 s,.int .u16 im,.int .u16 ax,.int .i64 bk,.int .i64 sz] 58)).heap.size=w.heap.size+1 by simp);obtain⟨n0,n1,n2,n3,n4,n5,n6⟩:=HI.out;have HC:=Nc (kY E ov S _ H.out);have HGx:=HG;obtain⟨r,hr⟩:∃ r,oN S=r:=⟨_,rfl⟩;rw[hr] at HC⊢;clear h hr;go_enter Tryz.func111,Tryz.ntmps111
 go_wp2_with fail
 refine HC.out.mono ?_;rintro e w1 hp;cases r with
 | ok S'=>
  obtain⟨rfl,hm1,hg1⟩:=hp;have HM1:=Nc hm1;have HG1:=Nc (aS HGx.out hg1);clear hm1 hg1;go_wp2_with fail
  go_end0
  exact Post.okk rfl rfl HM1.out HG1.out
 | tr t i=>
  obtain⟨rfl,S',hm1,hk1,hg1⟩:=hp;have HM1:=Nc hm1;have HK1:=Nc hk1;have HG1:=Nc (aS HGx.out hg1);clear hm1 hg1 hk1;go_wp2_with fail
  exact⟨rfl,Post.trr rfl rfl HM1.out HK1.out HG1.out⟩
theorem IY(E:Env)(ov:Value)(S:Ms)(k:Nat)(s im ax bk sz:Int)(w:World)(h:Mc E ov S w)(hd:k < 8)(hm:U16 im)(hx:U16 ax):
  Calls Tryz.prog 111 #[.pointer (some ⟨E.b,0,none⟩),.agg #[.int .i64 2,.int .i64 (k:Int),.int .i64 s,.int .u16 im,.int .u16 ax,.int .i64 bk,.int .i64 sz]] w fun e w'=>Post E ov S w (.tr 1 0) e w':=by
 have hlt:=h.lt;have hne:E.b≠w.heap.size:=by omega
 have HI:=Nc (aG w 2 (k:Int) s im ax bk sz);have H:=Nc (h.alloc (.cells #[.int .i64 2,.int .i64 (k:Int),.int .i64 s,.int .u16 im,.int .u16 ax,.int .i64 bk,.int .i64 sz] 58));have HG:=Nc (aJ (ah w (some E.b)) (.cells #[.int .i64 2,.int .i64 (k:Int),.int .i64 s,.int .u16 im,.int .u16 ax,.int .i64 bk,.int .i64 sz] 58));have HW:=Nc (show(w.alloc (.cells #[.int .i64 2,.int .i64 (k:Int),.int .i64 s,.int .u16 im,.int .u16 ax,.int .i64 bk,.int .i64 sz] 58)).heap.size=w.heap.size+1 by simp);obtain⟨n0,n1,n2,n3,n4,n5,n6⟩:=HI.out;clear h;go_enter Tryz.func111,Tryz.ntmps111
 go_wp2_with fail
 refine(bH _ _ _).mono ?_;rintro e w1 ⟨rfl,rfl⟩;go_wp2_with fail
 exact⟨rfl,Post.trr rfl rfl H.out (Kp.refl S) HG.out⟩
theorem Dp(E:Env)(ov:Value)(S:Ms)(k:Nat)(s im ax bk sz:Int)(w:World)(h:Mc E ov S w)(hd:k < 8)(hm:U16 im)(hx:U16 ax)(b0:0≤bk)(b1:bk < 256):
  Calls Tryz.prog 111 #[.pointer (some ⟨E.b,0,none⟩),.agg #[.int .i64 133,.int .i64 (k:Int),.int .i64 s,.int .u16 im,.int .u16 ax,.int .i64 bk,.int .i64 sz]] w fun e w'=>Post E ov S w (if S.r k < bk then iW E.I S ax (S.r k) else .ok (jmp S im)) e w':=by
 have hlt:=h.lt;have hne:E.b≠w.heap.size:=by omega
 have HI:=Nc (aG w 133 (k:Int) s im ax bk sz);have H:=Nc (h.alloc (.cells #[.int .i64 133,.int .i64 (k:Int),.int .i64 s,.int .u16 im,.int .u16 ax,.int .i64 bk,.int .i64 sz] 58));have HG:=Nc (aJ (ah w (some E.b)) (.cells #[.int .i64 133,.int .i64 (k:Int),.int .i64 s,.int .u16 im,.int .u16 ax,.int .i64 bk,.int .i64 sz] 58));have HW:=Nc (show(w.alloc (.cells #[.int .i64 133,.int .i64 (k:Int),.int .i64 s,.int .u16 im,.int .u16 ax,.int .i64 bk,.int .i64 sz] 58)).heap.size=w.heap.size+1 by simp);have hk8:(k:Int) < 8:=by omega
 obtain⟨n0,n1,n2,n3,n4,n5,n6⟩:=HI.out;have ck:=H.out.cR k hd;have hv:=h.ok.r k hd;have hpc:=h.ok.pc;have HX:=Nc (H.out.drew.dF ((S.pc+im)%65536) (dU _));have HJ:=Nc (show jmp S im={S with pc:=(S.pc+im)%65536} from rfl);have c15:=H.out.drew.c15;have hf:=H.out.drew.frz;obtain⟨p,hp⟩:∃ p,S.pc=p:=⟨_,rfl⟩;rw[hp] at c15 hpc HX HJ;obtain⟨v,hvv⟩:∃ v,S.r k=v:=⟨_,rfl⟩;rw[hvv] at ck hv⊢;have HVV:=Nc hv;obtain⟨v0,v1⟩:=hv;obtain⟨p0,p1⟩:=hpc;have hw:IntKind.u16.wrap (p+im)=(p+im)%65536:=IntKind.wrap_u16 _;have hbw:IntKind.u16.wrap bk=bk:=by rw[IntKind.wrap_u16];omega
 have hbm:bk%65536=bk:=by omega
 obtain⟨m0,m1⟩:=hm;have HAx:=Nc hx;have hp2:=hp;clear hp hvv hx;by_cases q:v < bk
 ·have dq:=decide_eq_true q
  have HC:=Nc (fun W (hw:Mc E ov S W)=>lm E ov S ax v W hw HAx.out HVV.out);have HGx:=Nc (aO HG.out);rw[show(if v < bk then iW E.I S ax v else .ok (jmp S im))=iW E.I S ax v from if_pos q];obtain⟨r,hr⟩:∃ r,iW E.I S ax v=r:=⟨_,rfl⟩;rw[hr] at HC⊢;clear h hr;go_enter Tryz.func111,Tryz.ntmps111
  go_wp2_with fail
  go_region
  go_wp2_with fail
  refine(HC.out _ H.out.drew).mono ?_;rintro e w1 hp;cases r with
  | ok S'=>
   obtain⟨rfl,hm1,hg1⟩:=hp;have HM1:=Nc hm1;have HG1:=Nc (aS HGx.out hg1);clear hm1 hg1;go_wp2_with fail
   go_end0
   exact Post.okk rfl rfl HM1.out HG1.out
  | tr t i=>
   obtain⟨rfl,S',hm1,hk1,hg1⟩:=hp;have HM1:=Nc hm1;have HK1:=Nc hk1;have HG1:=Nc (aS HGx.out hg1);clear hm1 hg1 hk1;go_wp2_with fail
   exact⟨rfl,Post.trr rfl rfl HM1.out HK1.out HG1.out⟩
 ·have dq:=decide_eq_false q
  rw[show(if v < bk then iW E.I S ax v else .ok (jmp S im))= .ok (jmp S im) from if_neg q];have HX3:=Nc (show Mc E ov (jmp S im) ((w.setCell ⟨E.b,15,none⟩ (.int .u16 ((p+im)%65536))).alloc (.cells #[.int .i64 133,.int .i64 (k:Int),.int .i64 s,.int .u16 im,.int .u16 ax,.int .i64 bk,.int .i64 sz] 58)) from HJ.out▸((hp2▸h.dF ((S.pc+im)%65536) (dU _):Mc E ov {S with pc:=(p+im)%65536} (w.setCell ⟨E.b,15,none⟩ (.int .u16 ((p+im)%65536)))).alloc _));clear h hp2;go_enter Tryz.func111,Tryz.ntmps111
  go_wp2_with fail
  go_region
  go_wp2_with fail
  go_region
  go_wp2_with fail
  go_end0
  exact Post.okk rfl rfl (by first | exact HX3.out.drew | exact HX3.out.drew.drew) (by first | exact aO (aJ (ag (ah _ _) _ _) _) | exact aO (aO (aJ (ag (ah _ _) _ _) _)))
theorem Dn(E:Env)(ov:Value)(S:Ms)(k:Nat)(s im ax bk sz:Int)(w:World)(h:Mc E ov S w)(hd:k < 8)(hm:U16 im)(hx:U16 ax):
  Calls Tryz.prog 111 #[.pointer (some ⟨E.b,0,none⟩),.agg #[.int .i64 134,.int .i64 (k:Int),.int .i64 s,.int .u16 im,.int .u16 ax,.int .i64 bk,.int .i64 sz]] w fun e w'=>Post E ov S w (iW E.I S im (S.r k)) e w':=by
 have hlt:=h.lt;have hne:E.b≠w.heap.size:=by omega
 have HI:=Nc (aG w 134 (k:Int) s im ax bk sz);have H:=Nc (h.alloc (.cells #[.int .i64 134,.int .i64 (k:Int),.int .i64 s,.int .u16 im,.int .u16 ax,.int .i64 bk,.int .i64 sz] 58));have HG:=Nc (aJ (ah w (some E.b)) (.cells #[.int .i64 134,.int .i64 (k:Int),.int .i64 s,.int .u16 im,.int .u16 ax,.int .i64 bk,.int .i64 sz] 58));have HW:=Nc (show(w.alloc (.cells #[.int .i64 134,.int .i64 (k:Int),.int .i64 s,.int .u16 im,.int .u16 ax,.int .i64 bk,.int .i64 sz] 58)).heap.size=w.heap.size+1 by simp);have hk8:(k:Int) < 8:=by omega
 obtain⟨n0,n1,n2,n3,n4,n5,n6⟩:=HI.out;have ck:=H.out.cR k hd;have hv:=h.ok.r k hd;obtain⟨v,hvv⟩:∃ v,S.r k=v:=⟨_,rfl⟩;rw[hvv] at ck hv⊢;have HC:=Nc (fun W (hw:Mc E ov S W)=>lm E ov S im v W hw hm hv);have HV:=Nc hvv;have hS1:=Nc (And.intro n1 (And.intro n3 ck));obtain⟨r,hr⟩:∃ r,iW E.I S im v=r:=⟨_,rfl⟩;rw[hr] at HC⊢;have HRr:=Nc (fun (S':Ms) (hx:r= .ok S')=>(Il (hr.trans hx)).symm▸hvv);clear h hr hvv hv hm;cases r with
 | ok S'=>
  have HRr:=Nc (HRr.out S' rfl);go_enter Tryz.func111,Tryz.ntmps111
  go_wp2_with fail
  refine wp_region_held_drew (S:=fun w'=>w'.cell? ⟨w.heap.size,1,none⟩=some (.int .i64 (k:Int))∧w'.cell? ⟨w.heap.size,3,none⟩=some (.int .u16 im)∧w'.cell? ⟨E.b,7+k,none⟩=some (.int .u16 v)) (by kernel_rfl) (hS1.out) (fun hHeld=>?_);refine tq 0 rfl ?_;refine tq 1 rfl ?_;refine tq 2 rfl ?_;refine tq 3 rfl ?_;refine tq 4 rfl ?_;refine tq 5 rfl ?_;refine tq 6 rfl ?_;refine tq 7 rfl ?_;refine tq 8 rfl ?_;refine tq 9 rfl ?_;refine tq 10 rfl ?_;refine rd1 11 rfl (fun K hK=>?_);go_simp
  ((go_at_call 149;(with_reducible refine(HC.out _ H.out.drew).mono ?_));rintro e w1 ⟨rfl,hm1,hg1⟩;have HM1:=Nc hm1;have HG1:=Nc (aS (aO HG.out) hg1);have HK1:=Nc (cell_kept (w:=(w.alloc (.cells #[.int .i64 134,.int .i64 (k:Int),.int .i64 s,.int .u16 im,.int .u16 ax,.int .i64 bk,.int .i64 sz] 58)).drew) HI.out.2.1 hg1 hne);have HK3:=Nc (cell_kept (w:=(w.alloc (.cells #[.int .i64 134,.int .i64 (k:Int),.int .i64 s,.int .u16 im,.int .u16 ax,.int .i64 bk,.int .i64 sz] 58)).drew) HI.out.2.2.2.1 hg1 hne);clear hm1 hg1)
  go_wp2_with fail
  refine hK.out _ _ (⟨HK1.out,HK3.out,HRr.out▸HM1.out.cR k hd⟩) (fun hHeld=>?_);clear hK K
  try simp only[lay]
  refine wpAnyH_done (by kernel_rfl) ?_ _;go_wp2_with fail
  go_end0
  exact Post.okk rfl rfl HM1.out HG1.out
 | tr t i=>
  go_enter Tryz.func111,Tryz.ntmps111
  go_wp2_with fail
  refine wp_region_held_drew (S:=fun w'=>w'.cell? ⟨w.heap.size,1,none⟩=some (.int .i64 (k:Int))∧w'.cell? ⟨w.heap.size,3,none⟩=some (.int .u16 im)∧w'.cell? ⟨E.b,7+k,none⟩=some (.int .u16 v)) (by kernel_rfl) (hS1.out) (fun hHeld=>?_);refine tq 0 rfl ?_;refine tq 1 rfl ?_;refine tq 2 rfl ?_;refine tq 3 rfl ?_;refine tq 4 rfl ?_;refine tq 5 rfl ?_;refine tq 6 rfl ?_;refine tq 7 rfl ?_;refine tq 8 rfl ?_;refine tq 9 rfl ?_;refine tq 10 rfl ?_;refine rd1 11 rfl (fun K hK=>?_);go_simp
  ((go_at_call 149;(with_reducible refine(HC.out _ H.out.drew).mono ?_));rintro e w1 ⟨rfl,S',hm1,hk1,hg1⟩;have HM1:=Nc hm1;have HK1:=Nc hk1;have HG1:=Nc (aS (aO HG.out) hg1);clear hm1 hg1 hk1)
  go_wp2_with fail
  exact⟨rfl,Post.trr rfl rfl HM1.out HK1.out HG1.out⟩
end Go.Proofs.YthkcloapiefggaaGreatDoor
