import Derived.Test.YthkcloapiefggaaGreatDoorQMem
namespace Go.Proofs.YthkcloapiefggaaGreatDoor
set_option linter.unusedVariables false
set_option linter.unusedSimpArgs false
set_option maxRecDepth 100000
set_option maxHeartbeats 1000000
open Go.ChangeShapes Go.WideShapes Go.RowKit
theorem Mc.cIn{E:Env}{ov:Value}{S:Ms}{w:World}(h:Mc E ov S w):w.cell? ⟨E.b,5,none⟩=some (.slice E.pi E.T.inn.length E.ci):=h.hd 5 _ (by decide) rfl
theorem Mc.MS{E:Env}{ov:Value}{S:Ms}{w:World}(h:Mc E ov S w):w.cell? ⟨E.b,6,none⟩=some (.slice E.pq E.T.irq.length E.cq):=h.hd 6 _ (by decide) rfl
theorem Mc.sIn{E:Env}{ov:Value}{S:Ms}{w:World}(h:Mc E ov S w):Slo w E.pi (inC E.T.inn):=h.env.hin.below h.bel
theorem Mc.Iw{E:Env}{ov:Value}{S:Ms}{w:World}(h:Mc E ov S w):Slo w E.pq (irC E.T.irq):=h.env.hir.below h.bel
theorem Slo.inn{w:World}{p:Option Addr}{l:List Int}(h:Slo w p (inC l)){k:Nat}(hk:k < l.length):∃ g o,p=some ⟨g,o,none⟩∧w.cell? ⟨g,o+k,none⟩=some (.int .u16 (l.getD k 0)):=
 h k (.int .u16 (l.getD k 0)) (by unfold inC;rw[List.getElem?_map,List.getElem?_eq_getElem hk];simp[List.getD,hk])
theorem Slo.irr{w:World}{p:Option Addr}{l:List Int}(h:Slo w p (irC l)){k:Nat}(hk:k < l.length):∃ g o,p=some ⟨g,o,none⟩∧w.cell? ⟨g,o+k,none⟩=some (.int .u8 (l.getD k 0)):=
 h k (.int .u8 (l.getD k 0)) (by unfold irC;rw[List.getElem?_map,List.getElem?_eq_getElem hk];simp[List.getD,hk])
theorem getD_mem{l:List Int}{k:Nat}(hk:k < l.length):l.getD k 0∈l:=by simp[List.getD,hk]
def rdV(T:Tp)(S:Ms)(p:Int):Int:=if p=0 then S.aF%65536 else if (T.inn.length:Int)≤max S.inp 0 then 0 else T.inn.getD (max S.inp 0).toNat 0
def rdS(T:Tp)(S:Ms)(p:Int):Ms:=if p=0 then S else if (T.inn.length:Int)≤max S.inp 0 then S else {S with inp:=max S.inp 0+1}
theorem Jd(T:Tp)(S:Ms)(d p:Int):inP T S d p=aZ (rdS T S p) d (rdV T S p):=by
 unfold inP rdS rdV
 split
 ·rfl
 split<;>rfl
theorem IG{T:Tp}{S:Ms}(hT:T.Ok)(p:Int):U16 (rdV T S p):=by
 unfold rdV
 split
 ·exact dU _
 split
 ·exact⟨by decide,by decide⟩
 ·rename_i h
  exact hT.inn _ (getD_mem (by omega))
theorem zV(E:Env)(ov:Value)(S:Ms)(p:Int)(w:World)(h:Mc E ov S w)(hp:U16 p):
  Calls Tryz.prog 150 #[.pointer (some ⟨E.b,0,none⟩),.int .u16 p] w fun e w'=>e= .returned (.int .u16 (rdV E.T S p))∧Mc E ov (rdS E.T S p) w'∧w.grownBy w' (some E.b):=by
 have H:=Nc h;have c19:=h.c19;have c21:=h.c21;have c5:=h.cIn;have hf:=h.frz;have hl:=h.env.T.n0;have hi:=h.ok.inp;have HV:=Nc (show rdV E.T S p=if p=0 then S.aF%65536 else if (E.T.inn.length:Int)≤max S.inp 0 then 0 else E.T.inn.getD (max S.inp 0).toNat 0 from rfl);have HS:=Nc (show rdS E.T S p=if p=0 then S else if (E.T.inn.length:Int)≤max S.inp 0 then S else {S with inp:=max S.inp 0+1} from rfl);obtain⟨v,hv⟩:∃ v,rdV E.T S p=v:=⟨_,rfl⟩;obtain⟨S',hs⟩:∃ S',rdS E.T S p=S':=⟨_,rfl⟩;rw[hv] at HV⊢;rw[hs] at HS⊢;obtain⟨i,hi'⟩:∃ i,S.inp=i:=⟨_,rfl⟩;rw[hi'] at c21 hi HV HS;obtain⟨i0,i1⟩:=hi;obtain⟨p0,p1⟩:=hp;clear h hv hs;by_cases q:p=0
 ·have HV1:=Nc (HV.out.trans (if_pos q))
  have HS1:=Nc (HS.out.trans (if_pos q));subst q;clear HV HS;go_enter Tryz.func150,Tryz.ntmps150
  go_wp2_with fail
  go_ret
  exact⟨eX HV1.out.symm,HS1.out▸H.out,ah _ _⟩
 have r0:(p==0)=false:=by simpa using q
 have HV':=Nc (HV.out.trans (if_neg q));have HS':=Nc (HS.out.trans (if_neg q));clear HV HS;have HV:=HV';have HS:=HS';obtain⟨L,hL⟩:∃ L,E.T.inn.length=L:=⟨_,rfl⟩;rw[hL] at c5 HV HS hl;clear HV' HS'
 rcases(by omega:i < 0∨i=0∨0 < i) with s|s|s
 ·have hm:max i 0=0:=by omega
  rw[hm,show((0:Int)).toNat=0 by rfl] at HV;rw[hm,show(0:Int)+1=1 by rfl] at HS;clear hm;by_cases q2:(L:Int)≤0
  ·have HV1:=Nc (HV.out.trans (if_pos q2))
   have HS1:=Nc (HS.out.trans (if_pos q2));clear HV HS;go_enter Tryz.func150,Tryz.ntmps150
   go_wp2_with fail
   go_ret
   exact⟨eX HV1.out.symm,HS1.out▸H.out,ah _ _⟩
  ·have HV1:=Nc (HV.out.trans (if_neg q2))
   have HS1:=Nc (HS.out.trans (if_neg q2));have hn2:0 < E.T.inn.length:=by omega
   have hn3:0 < (L:Int):=by omega
   obtain⟨g,o,hg,hc⟩:=H.out.sIn.inn hn2
   try rw[Nat.add_zero] at hc
   have HX:=Nc (H.out.nJ 1 ⟨by omega,by omega⟩);rw[hg] at c5;have hne:g≠E.b:=by
    obtain⟨g2,o2,hg2,hc2⟩:=H.out.env.hin.inn hn2;obtain⟨rfl,rfl⟩:g2=g∧o2=o:=by rw[hg] at hg2;simpa using hg2.symm
    try rw[Nat.add_zero] at hc2
    have h1:=World.block_lt_of_cell? _ _ hc2;have h2:=H.out.env.lo;have h3:=H.out.env.mp0;have h4:=H.out.env.mp1;have h5:=H.out.env.b;simp only at h1;omega
   obtain⟨x,hx⟩:∃ x,E.T.inn.getD 0 0=x:=⟨_,rfl⟩;rw[hx] at hc HV1;have hxb:=Nc (hx▸H.out.env.T.inn _ (getD_mem hn2));clear HV HS q2 hg hx hL hn2;go_enter Tryz.func150,Tryz.ntmps150
   go_wp2_with fail
   go_ret
   exact⟨eX HV1.out.symm,HS1.out▸HX.out,ag (ah _ _) _ _⟩
 ·have hm:max i 0=0:=by omega
  rw[hm,show((0:Int)).toNat=0 by rfl] at HV;rw[hm,show(0:Int)+1=1 by rfl] at HS;subst s;clear hm;by_cases q2:(L:Int)≤0
  ·have HV1:=Nc (HV.out.trans (if_pos q2))
   have HS1:=Nc (HS.out.trans (if_pos q2));clear HV HS;go_enter Tryz.func150,Tryz.ntmps150
   go_wp2_with fail
   go_ret
   exact⟨eX HV1.out.symm,HS1.out▸H.out,ah _ _⟩
  ·have HV1:=Nc (HV.out.trans (if_neg q2))
   have HS1:=Nc (HS.out.trans (if_neg q2));have hn2:0 < E.T.inn.length:=by omega
   have hn3:0 < (L:Int):=by omega
   obtain⟨g,o,hg,hc⟩:=H.out.sIn.inn hn2
   try rw[Nat.add_zero] at hc
   have HX:=Nc (H.out.nJ 1 ⟨by omega,by omega⟩);rw[hg] at c5;have hne:g≠E.b:=by
    obtain⟨g2,o2,hg2,hc2⟩:=H.out.env.hin.inn hn2;obtain⟨rfl,rfl⟩:g2=g∧o2=o:=by rw[hg] at hg2;simpa using hg2.symm
    try rw[Nat.add_zero] at hc2
    have h1:=World.block_lt_of_cell? _ _ hc2;have h2:=H.out.env.lo;have h3:=H.out.env.mp0;have h4:=H.out.env.mp1;have h5:=H.out.env.b;simp only at h1;omega
   obtain⟨x,hx⟩:∃ x,E.T.inn.getD 0 0=x:=⟨_,rfl⟩;rw[hx] at hc HV1;have hxb:=Nc (hx▸H.out.env.T.inn _ (getD_mem hn2));clear HV HS q2 hg hx hL hn2;go_enter Tryz.func150,Tryz.ntmps150
   go_wp2_with fail
   go_ret
   exact⟨eX HV1.out.symm,HS1.out▸HX.out,ag (ah _ _) _ _⟩
 ·obtain⟨n,rfl⟩:∃ n:Nat,i=n:=⟨i.toNat,by omega⟩
  have hm:max (n:Int) 0=n:=by omega
  rw[hm,show((n:Int)).toNat=n by omega] at HV;rw[hm] at HS;clear hm;by_cases q2:(L:Int)≤(n:Int)
  ·have HV1:=Nc (HV.out.trans (if_pos q2))
   have HS1:=Nc (HS.out.trans (if_pos q2));clear HV HS;go_enter Tryz.func150,Tryz.ntmps150
   go_wp2_with fail
   go_ret
   exact⟨eX HV1.out.symm,HS1.out▸H.out,ah _ _⟩
  ·have HV1:=Nc (HV.out.trans (if_neg q2))
   have HS1:=Nc (HS.out.trans (if_neg q2));have hn2:n < E.T.inn.length:=by omega
   have hn3:(n:Int) < (L:Int):=by omega
   obtain⟨g,o,hg,hc⟩:=H.out.sIn.inn hn2
   try rw[Nat.add_zero] at hc
   have HX:=Nc (H.out.nJ ((n:Int)+1) ⟨by omega,by omega⟩);rw[hg] at c5;have hne:g≠E.b:=by
    obtain⟨g2,o2,hg2,hc2⟩:=H.out.env.hin.inn hn2;obtain⟨rfl,rfl⟩:g2=g∧o2=o:=by rw[hg] at hg2;simpa using hg2.symm
    try rw[Nat.add_zero] at hc2
    have h1:=World.block_lt_of_cell? _ _ hc2;have h2:=H.out.env.lo;have h3:=H.out.env.mp0;have h4:=H.out.env.mp1;have h5:=H.out.env.b;simp only at h1;omega
   obtain⟨x,hx⟩:∃ x,E.T.inn.getD n 0=x:=⟨_,rfl⟩;rw[hx] at hc HV1;have hxb:=Nc (hx▸H.out.env.T.inn _ (getD_mem hn2));clear HV HS q2 hg hx hL hn2;go_enter Tryz.func150,Tryz.ntmps150
   go_wp2_with fail
   go_ret
   exact⟨eX HV1.out.symm,HS1.out▸HX.out,ag (ah _ _) _ _⟩
def ivB(T:Tp)(S:Ms):Bool:=if (T.irq.length:Int)≤max S.pol 0 then false else(T.irq.getD (max S.pol 0).toNat 0 != 0)
def ivS(T:Tp)(S:Ms):Ms:=if (T.irq.length:Int)≤max S.pol 0 then S else {S with pol:=max S.pol 0+1}
theorem CO(I:Im)(T:Tp)(S:Ms):mg I T S=if ivB T S=true∧I.ve≠0 then rE I (ivS T S) else .ok (ivS T S):=by
 unfold mg ivB ivS;by_cases h:(T.irq.length:Int)≤max S.pol 0
 ·simp[if_pos h]
 ·simp[if_neg h]
theorem Aa(E:Env)(ov:Value)(S:Ms)(w:World)(h:Mc E ov S w):
  Calls Tryz.prog 152 #[.pointer (some ⟨E.b,0,none⟩)] w fun e w'=>e= .returned (.bool (ivB E.T S))∧Mc E ov (ivS E.T S) w'∧w.grownBy w' (some E.b):=by
 have H:=Nc h;have c22:=h.c22;have c5:=h.MS;have hf:=h.frz;have hl:=h.env.T.n1;have hi:=h.ok.pol;have HV:=Nc (show ivB E.T S=if (E.T.irq.length:Int)≤max S.pol 0 then false else(E.T.irq.getD (max S.pol 0).toNat 0 != 0) from rfl);have HS:=Nc (show ivS E.T S=if (E.T.irq.length:Int)≤max S.pol 0 then S else {S with pol:=max S.pol 0+1} from rfl);obtain⟨v,hv⟩:∃ v,ivB E.T S=v:=⟨_,rfl⟩;obtain⟨S',hs⟩:∃ S',ivS E.T S=S':=⟨_,rfl⟩;rw[hv] at HV⊢;rw[hs] at HS⊢;obtain⟨i,hi'⟩:∃ i,S.pol=i:=⟨_,rfl⟩;rw[hi'] at c22 hi HV HS;obtain⟨i0,i1⟩:=hi;clear h hv hs;obtain⟨L,hL⟩:∃ L,E.T.irq.length=L:=⟨_,rfl⟩;rw[hL] at c5 HV HS hl
 rcases(by omega:i < 0∨i=0∨0 < i) with s|s|s
 ·have hm:max i 0=0:=by omega
  rw[hm,show((0:Int)).toNat=0 by rfl] at HV;rw[hm,show(0:Int)+1=1 by rfl] at HS;clear hm;by_cases q2:(L:Int)≤0
  ·have HV1:=Nc (HV.out.trans (if_pos q2))
   have HS1:=Nc (HS.out.trans (if_pos q2));clear HV HS;go_enter Tryz.func152,Tryz.ntmps152
   go_wp2_with fail
   go_ret
   exact⟨by rw[HV1.out];rfl,HS1.out▸H.out,ah _ _⟩
  ·have HV1:=Nc (HV.out.trans (if_neg q2))
   have HS1:=Nc (HS.out.trans (if_neg q2));have hn2:0 < E.T.irq.length:=by omega
   have hn3:0 < (L:Int):=by omega
   obtain⟨g,o,hg,hc⟩:=H.out.Iw.irr hn2
   try rw[Nat.add_zero] at hc
   have HX:=Nc (H.out.nI 1 ⟨by omega,by omega⟩);rw[hg] at c5;have hne:g≠E.b:=by
    obtain⟨g2,o2,hg2,hc2⟩:=H.out.env.hir.irr hn2;obtain⟨rfl,rfl⟩:g2=g∧o2=o:=by rw[hg] at hg2;simpa using hg2.symm
    try rw[Nat.add_zero] at hc2
    have h1:=World.block_lt_of_cell? _ _ hc2;have h2:=H.out.env.lo;have h3:=H.out.env.mp0;have h4:=H.out.env.mp1;have h5:=H.out.env.b;simp only at h1;omega
   obtain⟨x,hx⟩:∃ x,E.T.irq.getD 0 0=x:=⟨_,rfl⟩;rw[hx] at hc HV1;have hxb:=Nc (hx▸H.out.env.T.irq _ (getD_mem hn2));clear HV HS q2 hg hx hL hn2;go_enter Tryz.func152,Tryz.ntmps152
   go_wp2_with fail
   go_ret
   exact⟨by rw[HV1.out];rfl,HS1.out▸HX.out,ag (ah _ _) _ _⟩
 ·have hm:max i 0=0:=by omega
  rw[hm,show((0:Int)).toNat=0 by rfl] at HV;rw[hm,show(0:Int)+1=1 by rfl] at HS;subst s;clear hm;by_cases q2:(L:Int)≤0
  ·have HV1:=Nc (HV.out.trans (if_pos q2))
   have HS1:=Nc (HS.out.trans (if_pos q2));clear HV HS;go_enter Tryz.func152,Tryz.ntmps152
   go_wp2_with fail
   go_ret
   exact⟨by rw[HV1.out];rfl,HS1.out▸H.out,ah _ _⟩
  ·have HV1:=Nc (HV.out.trans (if_neg q2))
   have HS1:=Nc (HS.out.trans (if_neg q2));have hn2:0 < E.T.irq.length:=by omega
   have hn3:0 < (L:Int):=by omega
   obtain⟨g,o,hg,hc⟩:=H.out.Iw.irr hn2
   try rw[Nat.add_zero] at hc
   have HX:=Nc (H.out.nI 1 ⟨by omega,by omega⟩);rw[hg] at c5;have hne:g≠E.b:=by
    obtain⟨g2,o2,hg2,hc2⟩:=H.out.env.hir.irr hn2;obtain⟨rfl,rfl⟩:g2=g∧o2=o:=by rw[hg] at hg2;simpa using hg2.symm
    try rw[Nat.add_zero] at hc2
    have h1:=World.block_lt_of_cell? _ _ hc2;have h2:=H.out.env.lo;have h3:=H.out.env.mp0;have h4:=H.out.env.mp1;have h5:=H.out.env.b;simp only at h1;omega
   obtain⟨x,hx⟩:∃ x,E.T.irq.getD 0 0=x:=⟨_,rfl⟩;rw[hx] at hc HV1;have hxb:=Nc (hx▸H.out.env.T.irq _ (getD_mem hn2));clear HV HS q2 hg hx hL hn2;go_enter Tryz.func152,Tryz.ntmps152
   go_wp2_with fail
   go_ret
   exact⟨by rw[HV1.out];rfl,HS1.out▸HX.out,ag (ah _ _) _ _⟩
 ·obtain⟨n,rfl⟩:∃ n:Nat,i=n:=⟨i.toNat,by omega⟩
  have hm:max (n:Int) 0=n:=by omega
  rw[hm,show((n:Int)).toNat=n by omega] at HV;rw[hm] at HS;clear hm;by_cases q2:(L:Int)≤(n:Int)
  ·have HV1:=Nc (HV.out.trans (if_pos q2))
   have HS1:=Nc (HS.out.trans (if_pos q2));clear HV HS;go_enter Tryz.func152,Tryz.ntmps152
   go_wp2_with fail
   go_ret
   exact⟨by rw[HV1.out];rfl,HS1.out▸H.out,ah _ _⟩
  ·have HV1:=Nc (HV.out.trans (if_neg q2))
   have HS1:=Nc (HS.out.trans (if_neg q2));have hn2:n < E.T.irq.length:=by omega
   have hn3:(n:Int) < (L:Int):=by omega
   obtain⟨g,o,hg,hc⟩:=H.out.Iw.irr hn2
   try rw[Nat.add_zero] at hc
   have HX:=Nc (H.out.nI ((n:Int)+1) ⟨by omega,by omega⟩);rw[hg] at c5;have hne:g≠E.b:=by
    obtain⟨g2,o2,hg2,hc2⟩:=H.out.env.hir.irr hn2;obtain⟨rfl,rfl⟩:g2=g∧o2=o:=by rw[hg] at hg2;simpa using hg2.symm
    try rw[Nat.add_zero] at hc2
    have h1:=World.block_lt_of_cell? _ _ hc2;have h2:=H.out.env.lo;have h3:=H.out.env.mp0;have h4:=H.out.env.mp1;have h5:=H.out.env.b;simp only at h1;omega
   obtain⟨x,hx⟩:∃ x,E.T.irq.getD n 0=x:=⟨_,rfl⟩;rw[hx] at hc HV1;have hxb:=Nc (hx▸H.out.env.T.irq _ (getD_mem hn2));clear HV HS q2 hg hx hL hn2;go_enter Tryz.func152,Tryz.ntmps152
   go_wp2_with fail
   go_ret
   exact⟨by rw[HV1.out];rfl,HS1.out▸HX.out,ag (ah _ _) _ _⟩
def rsK(S X:Ms):Nat→Ms
 | 0=>X
 | k+1=>psh (rsK S X k) (S.r k)
theorem qf(S X:Ms):∀ k,(rsK S X k).sp=X.sp+k
 | 0=>rfl
 | k+1=>by simp only[rsK,psh,qf S X k];omega
theorem BD(S X:Ms){Z:Ms}(h:Kp Z X)(hz:Z.sp≤X.sp):∀ k,Kp Z (rsK S X k)
 | 0=>h
 | k+1=>(BD S X h hz k).psh _ (by rw[qf];omega)
theorem BP(r:Nat→Int)(k:Nat)(hk:k < 8)(w:World):(Instr.index 34 (.agg #[.int .u16 (r 0),.int .u16 (r 1),.int .u16 (r 2),.int .u16 (r 3),.int .u16 (r 4),.int .u16 (r 5),.int .u16 (r 6),.int .u16 (r 7)]) (.int .i64 k)).run Tryz.prog w= .ok (.int .u16 (r k)) w:=by
 rcases(show k=0∨k=1∨k=2∨k=3∨k=4∨k=5∨k=6∨k=7 by omega) with rfl|rfl|rfl|rfl|rfl|rfl|rfl|rfl<;>kernel_rfl
theorem uI(E:Env)(ov:Value)(S:Ms)(w:World)(h:Mc E ov S w):
  Calls Tryz.prog 153 #[.pointer (some ⟨E.b,0,none⟩)] w fun e w'=>Post E ov S w (rE E.I S) e w':=by
 have H:=Nc h;have HOK:=Nc h.ok;have HR:=Nc (show rE E.I S=if S.sp+12≤4096 then .ok {rsK S (psh (psh (bJ S) S.f) S.fp) 8 with pc:=E.I.ve} else .tr 5 0 from rfl);obtain⟨r,hr⟩:∃ r,rE E.I S=r:=⟨_,rfl⟩;rw[hr] at HR⊢;have HVe:=Nc (show U16 E.I.ve from⟨h.env.I.v0,h.env.I.v1⟩);clear h hr;by_cases q:S.sp+2≤4096
 case neg=>
  go_enter Tryz.func153,Tryz.ntmps153
  go_wp2_with fail
  refine(fC E ov S _ H.out).mono ?_;rintro e w1 hp1;rw[show room S 2 (bJ S)= .tr 5 0 from if_neg q] at hp1;obtain⟨rfl,S',hm1,hk1,hg1⟩:=hp1;have HM1:=Nc hm1;have HK1:=Nc hk1;have HG1:=Nc hg1;clear hm1 hg1 hk1;go_wp2_with fail
  exact⟨rfl,Post.trr (HR.out.trans (if_neg (by omega))) rfl HM1.out HK1.out HG1.out⟩
 go_enter Tryz.func153,Tryz.ntmps153
 go_wp2_with fail
 refine(fC E ov S _ H.out).mono ?_;rintro e w1 hp1;rw[show room S 2 (bJ S)= .ok (bJ S) from if_pos q] at hp1;obtain⟨rfl,hm1,hg1⟩:=hp1;have HM1:=Nc hm1;have HG1:=Nc hg1;have HK1:Hid (Kp S (bJ S)):=Nc (((Kp.refl S).psh _ (Nat.le_refl _)).psh _ (Nat.le_succ _));have c18:w1.cell? ⟨E.b,18,none⟩=some (.int .u16 S.f):=hm1.c18;have hs1:(bJ S).sp=S.sp+2:=rfl;clear hm1 hg1;go_wp2_with fail
 by_cases q2:S.sp+2 < 4096
 case neg=>
  refine(jd E ov _ S.f _ HM1.out (by rw[hs1];omega)).mono ?_;rintro e w2 ⟨rfl,rfl⟩;go_wp2_with fail
  exact⟨rfl,Post.trr (HR.out.trans (if_neg (by omega))) rfl HM1.out HK1.out HG1.out⟩
 refine(jc E ov _ S.f _ HM1.out HOK.out.f (by rw[hs1];exact q2)).mono ?_;rintro e w2 ⟨rfl,hm2,hg2⟩;have HM2:=Nc hm2;have HG2:=Nc (aS HG1.out hg2);have HK2:=Nc (HK1.out.psh S.f (by rw[hs1];omega));have c17:w2.cell? ⟨E.b,17,none⟩=some (.int .u16 S.fp):=hm2.c17;have hs2:(psh (bJ S) S.f).sp=S.sp+3:=rfl;clear hm2 hg2 c18;go_wp2_with fail
 by_cases q3:S.sp+3 < 4096
 case neg=>
  refine(jd E ov _ S.fp _ HM2.out (by rw[hs2];omega)).mono ?_;rintro e w3 ⟨rfl,rfl⟩;go_wp2_with fail
  exact⟨rfl,Post.trr (HR.out.trans (if_neg (by omega))) rfl HM2.out HK2.out HG2.out⟩
 refine(jc E ov _ S.fp _ HM2.out HOK.out.fp (by rw[hs2];exact q3)).mono ?_;rintro e w3 ⟨rfl,hm3,hg3⟩;obtain⟨X,hX⟩:∃ X,psh (psh (bJ S) S.f) S.fp=X:=⟨_,rfl⟩;have HK3:=Nc (HK2.out.psh S.fp (by rw[hs2];omega));have hs3:X.sp=S.sp+4:=by rw[← hX];rfl
 rw[hX] at hm3 HK3 HR;have hrX:X.r=S.r:=by rw[← hX];rfl
 have HM3:=Nc hm3;have HG3:=Nc (aS HG2.out hg3);have a0:w3.cell? ⟨E.b,7,none⟩=some (.int .u16 (S.r 0)):=hrX▸hm3.cR 0 (by decide);have a1:w3.cell? ⟨E.b,8,none⟩=some (.int .u16 (S.r 1)):=hrX▸hm3.cR 1 (by decide);have a2:w3.cell? ⟨E.b,9,none⟩=some (.int .u16 (S.r 2)):=hrX▸hm3.cR 2 (by decide);have a3:w3.cell? ⟨E.b,10,none⟩=some (.int .u16 (S.r 3)):=hrX▸hm3.cR 3 (by decide);have a4:w3.cell? ⟨E.b,11,none⟩=some (.int .u16 (S.r 4)):=hrX▸hm3.cR 4 (by decide);have a5:w3.cell? ⟨E.b,12,none⟩=some (.int .u16 (S.r 5)):=hrX▸hm3.cR 5 (by decide);have a6:w3.cell? ⟨E.b,13,none⟩=some (.int .u16 (S.r 6)):=hrX▸hm3.cR 6 (by decide);have a7:w3.cell? ⟨E.b,14,none⟩=some (.int .u16 (S.r 7)):=hrX▸hm3.cR 7 (by decide);clear hm3 hg3 c17 hrX hX hs1 hs2;go_wp2_with fail
 clear a0 a1 a2 a3 a4 a5 a6 a7;have HKk:=Nc (BD S X HK3.out (by omega));have HSp:=Nc (fun k=>(qf S X k).trans (by rw[hs3]));clear hs3;go_loopw [25] (fun i wr=>∃ k:Nat,k≤8∧i= .int .i64 k∧Hid (Mc E ov (rsK S X k) wr∧w.grownBy wr (some E.b))∧Hid (S.sp+4+k≤4096)) (fun i _=>8-(intOf i).toNat)
 case atStart=>exact⟨0,Nat.zero_le _,rfl,Nc ⟨HM3.out,HG3.out⟩,Nc (by omega)⟩
 case round=>
  obtain⟨k,hk,rfl,HK,HL⟩:=hrel;by_cases hlt:k < 8
  ·have hlt':(k:Int) < 8:=by omega
   have hidx:=BP S.r k hlt;have HRk:=Nc (HOK.out.r k hlt);obtain⟨v,hv⟩:∃ v,S.r k=v:=⟨_,rfl⟩;rw[hv] at hidx HRk;have HV:=Nc hv;clear hv;go_wp2_with fail
   by_cases s3:S.sp+4+k < 4096
   ·refine(jc E ov (rsK S X k) v _ HK.out.1 HRk.out (by rw[HSp.out];exact s3)).mono ?_
    rintro e w4 ⟨rfl,hm4,hg4⟩;have HK4:=Nc (show Mc E ov (rsK S X (k+1)) w4∧w.grownBy w4 (some E.b) from⟨by rw[rsK,HV.out];exact hm4,aS HK.out.2 hg4⟩);clear hm4 hg4;go_wp2_with fail
    go_roundw
    case rel=>exact⟨k+1,hlt,by go_num,HK4,Nc (by omega)⟩
    case measure=>simp[intOf];omega
   ·refine(jd E ov (rsK S X k) v _ HK.out.1 (by rw[HSp.out];omega)).mono ?_
    rintro e w4 ⟨rfl,rfl⟩;go_wp2_with fail
    exact⟨rfl,Post.trr (HR.out.trans (if_neg (by omega))) rfl HK.out.1 (HKk.out k) HK.out.2⟩
  ·have hkm:k=8:=by omega
   subst hkm;have c2:=HK.out.1.c2;have c15:=HK.out.1.c15;have hf:=HK.out.1.frz;have HX:=Nc (HK.out.1.dF E.I.ve HVe.out);go_wp2_with fail
   go_end0
   exact Post.okk (HR.out.trans (if_pos (by have:=HL.out;omega))) rfl HX.out (ag HK.out.2 _ _)
theorem FB(S:Ms)(h:2≤S.sp):oN S= .ok {S with pc:=S.stk (S.sp-1),aF:=S.stk (S.sp-2)%64,sp:=S.sp-2}:=if_pos h
def irS(S:Ms)(k:Nat):Ms:={S with sp:=S.sp-k,r:=fun j=>if 8-k≤j∧j < 8 then S.stk (S.sp+j-8) else S.r j}
theorem Dy(S:Ms):irS S 0=S:=by
 unfold irS;have:(fun j=>if 8-0≤j∧j < 8 then S.stk (S.sp+j-8) else S.r j)=S.r:=by funext j;rw[if_neg (by omega)]
 rw[this];rfl
theorem Dz(S:Ms)(k:Nat)(hk:k < 8)(hs:k < S.sp):({ ({irS S k with sp:=(irS S k).sp-1} :Ms) with r:=upd (irS S k).r (7-k) (S.stk (S.sp-k-1))} :Ms)=irS S (k+1):=by
 unfold irS;have h1:upd (fun j=>if 8-k≤j∧j < 8 then S.stk (S.sp+j-8) else S.r j) (7-k) (S.stk (S.sp-k-1))=(fun j=>if 8-(k+1)≤j∧j < 8 then S.stk (S.sp+j-8) else S.r j):=by
  funext j
  unfold upd;by_cases e:j=7-k
  ·rw[if_pos e,if_pos (by omega),e];congr 1;omega
  ·rw[if_neg e]
   show(if 8-k≤j∧j < 8 then S.stk (S.sp+j-8) else S.r j)=_
   by_cases c:8-k≤j∧j < 8
   ·rw[if_pos c,if_pos (by omega)]
   ·rw[if_neg c,if_neg (by omega)]
 show({S with sp:=S.sp-k-1,r:=upd (fun j=>if 8-k≤j∧j < 8 then S.stk (S.sp+j-8) else S.r j) (7-k) (S.stk (S.sp-k-1))} :Ms)={S with sp:=S.sp-(k+1),r:=fun j=>if 8-(k+1)≤j∧j < 8 then S.stk (S.sp+j-8) else S.r j}
 rw[h1,show S.sp-k-1=S.sp-(k+1) by omega]
theorem xX(E:Env)(ov:Value)(S:Ms)(w:World)(h:Mc E ov S w):
  Calls Tryz.prog 154 #[.pointer (some ⟨E.b,0,none⟩)] w fun e w'=>Post E ov S w (jP S) e w':=by
 have H:=Nc h;have HOK:=Nc h.ok;have HR:=Nc (show jP S=if 12≤S.sp then .ok {S with r:=fun k=>if k < 8 then S.stk (S.sp-8+k) else S.r k,fp:=S.stk (S.sp-9),f:=S.stk (S.sp-10)%16,pc:=S.stk (S.sp-11),aF:=S.stk (S.sp-12)%64,sp:=S.sp-12} else .tr 5 0 from rfl);obtain⟨r,hr⟩:∃ r,jP S=r:=⟨_,rfl⟩;rw[hr] at HR⊢;clear h hr;go_enter Tryz.func154,Tryz.ntmps154
 go_wp2_with fail
 go_loopw [3,2] (fun i _ wr=>∃ k:Nat,k≤8∧i= .int .i64 k∧Hid (Mc E ov (irS S k) wr∧w.grownBy wr (some E.b))∧Hid (k≤S.sp)) (fun i _ _=>8-(intOf i).toNat)
 case atStart=>exact⟨0,Nat.zero_le _,rfl,Nc ⟨(Dy S).symm▸H.out,ah _ _⟩,Nc (Nat.zero_le _)⟩
 case round=>
  obtain⟨k,hk,rfl,HK,HL⟩:=hrel;by_cases hlt:k < 8
  ·have hlt':(k:Int) < 8:=by omega
   have hj7:((7:Int)-k).toNat=7-k:=by omega
   have hj8:(0:Int)≤7-k:=by omega
   have hj9:(7:Int)-k < 8:=by omega
   have hk7:(k:Int)≤7:=by omega
   have hw7:IntKind.i64.wrap (7-(k:Int))=7-k:=IntWalk.i64_in _ (by omega);by_cases s1:k < S.sp
   ·have HN:=Nc (Dz S k hlt s1)
    have hsp1:Hid (0 < (irS S k).sp):=Nc (show 0 < S.sp-k by omega);have hv:=HOK.out.stk (S.sp-k-1) (by have:=HOK.out.sp;omega);have HV:=Nc hv;clear hv;go_wp2_with fail
    refine wp_region_held_drew (S:=fun _=>True) (by kernel_rfl) (trivial) (fun hHeld=>?_);refine tq 0 rfl ?_;refine tq 1 rfl ?_;refine tq 2 rfl ?_;refine tq 3 rfl ?_;refine tq 5 rfl ?_;refine tq 6 rfl ?_;refine tq 7 rfl ?_;refine rd1 4 rfl (fun K hK=>?_);go_simp
    ((go_at_call 144;(with_reducible refine(kw E ov (irS S k) _ HK.out.1.drew hsp1.out).mono ?_));rintro e w1 ⟨rfl,hm1,hg1⟩;have hst:(irS S k).stk ((irS S k).sp-1)=S.stk (S.sp-k-1):=rfl;rw[hst];have HM1:=Nc (HN.out▸hm1.aZ (7-k) (by omega) _ HV.out);have HG1:=Nc (ag (aS (aO HK.out.2) hg1) (7+(7-k)) (.int .u16 (S.stk (S.sp-k-1))));have ck1:=hm1.cR (7-k) (by omega);have cf1:=hm1.frz;clear hm1 hg1 hst)
    go_wp2_with fail
    refine hK.out _ _ (trivial) (fun hHeld=>?_);clear hK K
    try simp only[lay]
    refine tq 8 rfl ?_;refine rd1 9 rfl (fun K hK=>?_);go_simp;refine hK.out _ _ (trivial) (fun hHeld=>?_);clear hK K
    try simp only[lay]
    refine wpAnyH_done (by kernel_rfl) ?_ _;go_wp2_with fail
    go_roundw
    case rel=>exact⟨k+1,hlt,by go_num,Nc ⟨HM1.out,HG1.out⟩,Nc s1⟩
    case measure=>simp[intOf];omega
   ·have hsp0:Hid ((irS S k).sp=0):=Nc (show S.sp-k=0 by omega)
    go_wp2_with fail
    refine wp_region_held_drew (S:=fun _=>True) (by kernel_rfl) (trivial) (fun hHeld=>?_);refine tq 0 rfl ?_;refine tq 1 rfl ?_;refine tq 2 rfl ?_;refine tq 3 rfl ?_;refine tq 5 rfl ?_;refine tq 6 rfl ?_;refine tq 7 rfl ?_;refine rd1 4 rfl (fun K hK=>?_);go_simp
    ((go_at_call 144;(with_reducible refine(kz E ov (irS S k) _ HK.out.1.drew hsp0.out).mono ?_));rintro e w1 ⟨rfl,rfl⟩)
    go_wp2_with fail
    exact⟨rfl,Post.trr (HR.out.trans (if_neg (by omega))) rfl HK.out.1.drew ⟨rfl,rfl,fun _ _=>rfl⟩ (aO HK.out.2)⟩
  ·have hkm:k=8:=by omega
   subst hkm;obtain⟨X,hX⟩:∃ X,irS S 8=X:=⟨_,rfl⟩;have h8:=HL.out;have x1:X.sp=S.sp-8:=by rw[← hX];rfl
   have x2:X.stk=S.stk:=by rw[← hX];rfl
   have HXr:=Nc (show X={S with sp:=S.sp-8,r:=fun k=>if k < 8 then S.stk (S.sp-8+k) else S.r k} by
    rw[← hX];unfold irS;have:(fun j=>if 8-8≤j∧j < 8 then S.stk (S.sp+j-8) else S.r j)=(fun k=>if k < 8 then S.stk (S.sp-8+k) else S.r k):=by
     funext j
     by_cases c:j < 8
     ·rw[if_pos c,if_pos (by omega),show S.sp+j-8=S.sp-8+j by omega]
     ·rw[if_neg c,if_neg (by omega)]
    rw[this])
   rw[hX] at HK;have HKX:Hid (Kp S X):=Nc (by rw[← hX];exact⟨rfl,rfl,fun _ _=>rfl⟩);clear hX;go_wp2_with fail
   by_cases s9:8 < S.sp
   case neg=>
    refine(kz E ov X _ HK.out.1 (by omega)).mono ?_;rintro e w1 ⟨rfl,rfl⟩;go_wp2_with fail
    exact⟨rfl,Post.trr (HR.out.trans (if_neg (by omega))) rfl HK.out.1 HKX.out HK.out.2⟩
   refine(kw E ov X _ HK.out.1 (by omega)).mono ?_;rintro e w1 ⟨rfl,hm1,hg1⟩;have hv:=HOK.out.stk (S.sp-9) (by have:=HOK.out.sp;omega);rw[x1,x2,show S.sp-8-1=S.sp-9 by omega] at hm1⊢;obtain⟨v,hvv⟩:∃ v,S.stk (S.sp-9)=v:=⟨_,rfl⟩;rw[hvv] at hv⊢;have HV:=Nc hvv;have HM1:=Nc (hm1.kW v hv);have HG1:=Nc (ag (aS HK.out.2 hg1) 17 (.int .u16 v));have c17:=hm1.c17;have hf:=hm1.frz;simp only at c17;clear hm1 hg1 hv hvv;go_wp2_with fail
   by_cases s10:9 < S.sp
   case neg=>
    refine(kz E ov _ _ HM1.out (show S.sp-9=0 by omega)).mono ?_;rintro e w2 ⟨rfl,rfl⟩;go_wp2_with fail
    exact⟨rfl,Post.trr (HR.out.trans (if_neg (by omega))) rfl HM1.out ⟨HKX.out.ram,HKX.out.out,fun _ _=>rfl⟩ HG1.out⟩
   refine(kw E ov _ _ HM1.out (show 0 < S.sp-9 by omega)).mono ?_;rintro e w2 ⟨rfl,hm2,hg2⟩;have hu:=HOK.out.stk (S.sp-10) (by have:=HOK.out.sp;omega);simp only[x2,show S.sp-9-1=S.sp-10 by omega] at hm2⊢;obtain⟨u,huu⟩:∃ u,S.stk (S.sp-10)=u:=⟨_,rfl⟩;rw[huu] at hu⊢;have HU:=Nc huu;have HM2:=Nc (hm2.oL (u%16) ⟨by omega,by omega⟩);have HG2:=Nc (ag (aS HG1.out hg2) 18 (.int .u16 (u%16)));have c18:=hm2.c18;have hf2:=hm2.frz;obtain⟨u0,u1⟩:=hu;have htm:=bu u 16 u0;simp only at c18;clear hm2 hg2 huu c17 hf;go_wp2_with fail
   by_cases s12:12≤S.sp
   ·refine(kY E ov _ _ HM2.out).mono ?_
    rintro e w3 hp;rw[FB] at hp
    rotate_left
    ·show 2≤S.sp-10
     omega
    obtain⟨rfl,hm3,hg3⟩:=hp;have HM3:=Nc hm3;have HG3:=Nc (aS HG2.out hg3);clear hm3 hg3;go_wp2_with fail
    go_end0
    refine Post.okk (HR.out.trans ((if_pos s12).trans ?_)) rfl HM3.out HG3.out;simp only[HV.out,HU.out,HXr.out,x2,show S.sp-10-1=S.sp-11 by omega,show S.sp-10-2=S.sp-12 by omega]
   ·refine(ul E ov _ _ HM2.out (show S.sp-10 < 2 by omega)).mono ?_
    rintro e w3 ⟨rfl,S',hm3,hr3,ho3,hk3,hg3⟩;have HM3:=Nc hm3;have HK3:=Nc (show Kp S S' from⟨hr3.trans HKX.out.ram,ho3.trans HKX.out.out,fun j hj=>by rw[hk3]⟩);have HG3:=Nc (aS HG2.out hg3);clear hm3 hg3 hk3 hr3 ho3;go_wp2_with fail
    exact⟨rfl,Post.trr (HR.out.trans (if_neg (by omega))) rfl HM3.out HK3.out HG3.out⟩
end Go.Proofs.YthkcloapiefggaaGreatDoor
