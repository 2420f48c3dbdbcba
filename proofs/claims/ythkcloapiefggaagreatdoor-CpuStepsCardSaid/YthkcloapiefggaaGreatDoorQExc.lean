import Derived.Test.YthkcloapiefggaaGreatDoorQBrn
namespace Go.Proofs.YthkcloapiefggaaGreatDoor
set_option linter.unusedVariables false
set_option linter.unusedSimpArgs false
set_option maxRecDepth 100000
set_option maxHeartbeats 1000000
open Go.ChangeShapes Go.WideShapes Go.RowKit
theorem KX(E:Env)(ov:Value)(S:Ms)(k:Nat)(s im ax bk sz:Int)(w:World)(h:Mc E ov S w)(hd:k < 8)(hi:InD ⟨0,k,s,im,ax,bk,sz⟩)(hl:iK S.out):
  Calls Tryz.prog 63 #[.pointer (some ⟨E.b,0,none⟩),.agg #[.int .i64 0,.int .i64 (k:Int),.int .i64 s,.int .u16 im,.int .u16 ax,.int .i64 bk,.int .i64 sz]] w fun e w'=>aY E ov S w (exP E.I E.T ⟨0,k,s,im,ax,bk,sz⟩ S) e w':=by
 obtain⟨n0,n1,n2,n3,n4,n5,n6⟩:=aG w 0 k s im ax bk sz;have H:=Nc (h.alloc (.cells #[.int .i64 0,.int .i64 (k:Int),.int .i64 s,.int .u16 im,.int .u16 ax,.int .i64 bk,.int .i64 sz] 58));have HG:=Nc (aJ (ah w (some E.b)) (.cells #[.int .i64 0,.int .i64 (k:Int),.int .i64 s,.int .u16 im,.int .u16 ax,.int .i64 bk,.int .i64 sz] 58));have hm:U16 im:=⟨hi.ok.m0,hi.ok.m1⟩;have hx:U16 ax:=⟨hi.ok.a0,hi.ok.a1⟩;have HR:=Nc (show exP E.I E.T ⟨0,k,s,im,ax,bk,sz⟩ S= .ok S from rfl);obtain⟨r,hr⟩:∃ r,exP E.I E.T ⟨0,k,s,im,ax,bk,sz⟩ S=r:=⟨_,rfl⟩;rw[hr] at HR⊢;clear h hr hm hx hi hl;go_enter Tryz.func63,Tryz.ntmps63
 go_wp2_with fail
 go_end0
 exact aY.okk HR.out rfl H.out (Fro.gb ov HG.out)
theorem bT(E:Env)(ov:Value)(S:Ms)(op:Int)(F:Nat)(ho:(F=109∧(op=80∨op=88∨op=84∨op=81∨op=89∨op=85∨op=82∨op=90∨op=86∨op=83∨op=91∨op=87∨op=150∨op=146∨op=147))∨(F=110∧(op=16∨op=17∨op=20∨op=5∨op=21∨op=160∨op=161∨op=162∨op=163))∨(F=111∧(op=128∨op=129∨op=130∨op=131∨op=132∨op=1∨op=134∨op=2∨op=133))∨(F=112∧(op=144∨op=3∨op=4∨op=145)))(k:Nat)(s im ax bk sz:Int)(r:Rs)(w:World)(h:Mc E ov S w)
  (hc:∀ V,Mc E ov S V→Calls Tryz.prog F #[.pointer (some ⟨E.b,0,none⟩),.agg #[.int .i64 op,.int .i64 (k:Int),.int .i64 s,.int .u16 im,.int .u16 ax,.int .i64 bk,.int .i64 sz]] V fun e w'=>aY E ov S V r e w'):
  Calls Tryz.prog 63 #[.pointer (some ⟨E.b,0,none⟩),.agg #[.int .i64 op,.int .i64 (k:Int),.int .i64 s,.int .u16 im,.int .u16 ax,.int .i64 bk,.int .i64 sz]] w fun e w'=>aY E ov S w r e w':=by
 obtain⟨n0,n1,n2,n3,n4,n5,n6⟩:=aG w op k s im ax bk sz;have H:=Nc (h.alloc (.cells #[.int .i64 op,.int .i64 (k:Int),.int .i64 s,.int .u16 im,.int .u16 ax,.int .i64 bk,.int .i64 sz] 58));have HG:=Nc (aJ (ah w (some E.b)) (.cells #[.int .i64 op,.int .i64 (k:Int),.int .i64 s,.int .u16 im,.int .u16 ax,.int .i64 bk,.int .i64 sz] 58));have HC:=Nc (hc _ H.out);clear h hc;rcases ho with⟨rfl,(rfl|rfl|rfl|rfl|rfl|rfl|rfl|rfl|rfl|rfl|rfl|rfl|rfl|rfl|rfl)⟩|⟨rfl,(rfl|rfl|rfl|rfl|rfl|rfl|rfl|rfl|rfl)⟩|⟨rfl,(rfl|rfl|rfl|rfl|rfl|rfl|rfl|rfl|rfl)⟩|⟨rfl,(rfl|rfl|rfl|rfl)⟩<;>(
 go_enter Tryz.func63,Tryz.ntmps63
 go_wp2_with fail
 refine(HC.out).mono ?_;rintro e w1 hp;cases r with
 | ok S'=>
  obtain⟨rfl,hp⟩:=hp;have HP:=Nc hp;clear hp;go_wp2_with fail
  go_end0
  exact aY.pre (R:= .ok S') ⟨rfl,HP.out⟩ HG.out
 | tr t x=>
  obtain⟨rfl,hp⟩:=hp;have HP:=Nc hp;clear hp;go_wp2_with fail
  exact⟨rfl,aY.pre (R:= .tr t x) ⟨rfl,HP.out⟩ HG.out⟩)
theorem Gt(E:Env)(ov:Value)(S:Ms)(op:Int)(k:Nat)(s im ax bk sz:Int)(w:World)(h:Mc E ov S w)(hz:Opz E)(hd:k < 8)(hm:U16 im)(ho:96≤op∧op≤125):
  Calls Tryz.prog 63 #[.pointer (some ⟨E.b,0,none⟩),.agg #[.int .i64 op,.int .i64 (k:Int),.int .i64 s,.int .u16 im,.int .u16 ax,.int .i64 bk,.int .i64 sz]] w fun e w'=>aY E ov S w (exP E.I E.T ⟨op,k,s,im,ax,bk,sz⟩ S) e w':=by
 obtain⟨n0,n1,n2,n3,n4,n5,n6⟩:=aG w op k s im ax bk sz;have H:=Nc (h.alloc (.cells #[.int .i64 op,.int .i64 (k:Int),.int .i64 s,.int .u16 im,.int .u16 ax,.int .i64 bk,.int .i64 sz] 58));have HG:=Nc (aJ (ah w (some E.b)) (.cells #[.int .i64 op,.int .i64 (k:Int),.int .i64 s,.int .u16 im,.int .u16 ax,.int .i64 bk,.int .i64 sz] 58));have HE:=Nc (show exP E.I E.T ⟨op,k,s,im,ax,bk,sz⟩ S= .ok (if dZ (op%16) S.f=true then jmp S im else S) by
  unfold exP;simp only;rw[if_neg (by omega),if_neg (by omega),if_neg (by omega),if_neg (by omega),if_neg (by omega),if_neg (by omega),if_neg (by omega),if_neg (by omega),if_neg (by omega),if_neg (by omega),if_neg (by omega),if_neg (by omega),if_neg (by omega),if_neg (by omega),if_neg (by omega),if_neg (by omega),if_neg (by omega),if_neg (by omega),if_neg (by omega),if_neg (by omega),if_neg (by omega),if_neg (by omega),if_neg (by omega),if_neg (by omega),if_neg (by omega),if_neg (by omega),if_neg (by omega),if_neg (by omega),if_neg (by omega),if_pos (by omega)]
  try rfl)
 have HC:=Nc ((yf E ov S op k s im ax bk sz _ H.out hm ho).mono fun e w' hp=>(show aY E ov S (w.alloc (.cells #[.int .i64 op,.int .i64 (k:Int),.int .i64 s,.int .u16 im,.int .u16 ax,.int .i64 bk,.int .i64 sz] 58)) (exP E.I E.T ⟨op,k,s,im,ax,bk,sz⟩ S) e w' from HE.out▸aY.of hp));obtain⟨r,hr⟩:∃ r,exP E.I E.T ⟨op,k,s,im,ax,bk,sz⟩ S=r:=⟨_,rfl⟩;rw[hr] at HC⊢;have r0:(op==0)=false:=by simpa using(show op≠0 by omega)
 have r84:(op==84)=false:=by simpa using(show op≠84 by omega)
 have r85:(op==85)=false:=by simpa using(show op≠85 by omega)
 have r86:(op==86)=false:=by simpa using(show op≠86 by omega)
 have r87:(op==87)=false:=by simpa using(show op≠87 by omega)
 have r80:(op==80)=false:=by simpa using(show op≠80 by omega)
 have r81:(op==81)=false:=by simpa using(show op≠81 by omega)
 have r82:(op==82)=false:=by simpa using(show op≠82 by omega)
 have r83:(op==83)=false:=by simpa using(show op≠83 by omega)
 have r146:(op==146)=false:=by simpa using(show op≠146 by omega)
 have r147:(op==147)=false:=by simpa using(show op≠147 by omega)
 have r150:(op==150)=false:=by simpa using(show op≠150 by omega)
 have r88:(op==88)=false:=by simpa using(show op≠88 by omega)
 have r89:(op==89)=false:=by simpa using(show op≠89 by omega)
 have r90:(op==90)=false:=by simpa using(show op≠90 by omega)
 have r91:(op==91)=false:=by simpa using(show op≠91 by omega)
 have r16:(op==16)=false:=by simpa using(show op≠16 by omega)
 have r17:(op==17)=false:=by simpa using(show op≠17 by omega)
 have r20:(op==20)=false:=by simpa using(show op≠20 by omega)
 have r5:(op==5)=false:=by simpa using(show op≠5 by omega)
 have r21:(op==21)=false:=by simpa using(show op≠21 by omega)
 have r160:(op==160)=false:=by simpa using(show op≠160 by omega)
 have r161:(op==161)=false:=by simpa using(show op≠161 by omega)
 have r162:(op==162)=false:=by simpa using(show op≠162 by omega)
 have r163:(op==163)=false:=by simpa using(show op≠163 by omega)
 have r128:(op==128)=false:=by simpa using(show op≠128 by omega)
 have r129:(op==129)=false:=by simpa using(show op≠129 by omega)
 have r130:(op==130)=false:=by simpa using(show op≠130 by omega)
 have r131:(op==131)=false:=by simpa using(show op≠131 by omega)
 have r132:(op==132)=false:=by simpa using(show op≠132 by omega)
 have r1:(op==1)=false:=by simpa using(show op≠1 by omega)
 have r133:(op==133)=false:=by simpa using(show op≠133 by omega)
 have r134:(op==134)=false:=by simpa using(show op≠134 by omega)
 have r2:(op==2)=false:=by simpa using(show op≠2 by omega)
 have r144:(op==144)=false:=by simpa using(show op≠144 by omega)
 have r145:(op==145)=false:=by simpa using(show op≠145 by omega)
 have r4:(op==4)=false:=by simpa using(show op≠4 by omega)
 have r3:(op==3)=false:=by simpa using(show op≠3 by omega)
 clear h hr hm hz HE;go_enter Tryz.func63,Tryz.ntmps63
 go_wp2_with fail
 refine HC.out.mono ?_;rintro e w1 hp;cases r with
 | ok S'=>
  obtain⟨rfl,hp⟩:=hp;have HP:=Nc hp;clear hp;go_wp2_with fail
  go_end0
  exact aY.pre (R:= .ok S') ⟨rfl,HP.out⟩ HG.out
 | tr t x=>
  obtain⟨rfl,hp⟩:=hp;have HP:=Nc hp;clear hp;go_wp2_with fail
  exact⟨rfl,aY.pre (R:= .tr t x) ⟨rfl,HP.out⟩ HG.out⟩
theorem Gq(E:Env)(ov:Value)(S:Ms)(op:Int)(k j:Nat)(im ax bk sz:Int)(w:World)(h:Mc E ov S w)(hz:Opz E)(hd:k < 8)(hj:j < 8)(hm:U16 im)(ho:(18≤op∧op≤19)∨(32≤op∧op≤46)):
  Calls Tryz.prog 63 #[.pointer (some ⟨E.b,0,none⟩),.agg #[.int .i64 op,.int .i64 (k:Int),.int .i64 (j:Int),.int .u16 im,.int .u16 ax,.int .i64 bk,.int .i64 sz]] w fun e w'=>aY E ov S w (exP E.I E.T ⟨op,k,(j:Int),im,ax,bk,sz⟩ S) e w':=by
 obtain⟨n0,n1,n2,n3,n4,n5,n6⟩:=aG w op k (j:Int) im ax bk sz;have H:=Nc (h.alloc (.cells #[.int .i64 op,.int .i64 (k:Int),.int .i64 (j:Int),.int .u16 im,.int .u16 ax,.int .i64 bk,.int .i64 sz] 58));have HG:=Nc (aJ (ah w (some E.b)) (.cells #[.int .i64 op,.int .i64 (k:Int),.int .i64 (j:Int),.int .u16 im,.int .u16 ax,.int .i64 bk,.int .i64 sz] 58));have HE:=Nc (show exP E.I E.T ⟨op,k,(j:Int),im,ax,bk,sz⟩ S=arP S op k (S.r j) by
  unfold exP;simp only;rw[if_neg (by omega),if_neg (by omega),if_neg (by omega),if_neg (by omega),if_neg (by omega),if_neg (by omega),if_neg (by omega),if_neg (by omega),if_neg (by omega),if_neg (by omega),if_neg (by omega),if_neg (by omega),if_neg (by omega),if_neg (by omega),if_neg (by omega),if_neg (by omega),if_neg (by omega),if_neg (by omega),if_neg (by omega),if_neg (by omega),if_neg (by omega),if_neg (by omega),if_neg (by omega),if_neg (by omega),if_neg (by omega),if_neg (by omega),if_neg (by omega),if_neg (by omega),if_neg (by omega),if_neg (by omega),if_neg (by omega)]
  try rfl)
 have HC:=Nc ((Ei E ov S op k j im ax bk sz _ H.out hz hd hj ho).mono fun e w' hp=>(show aY E ov S (w.alloc (.cells #[.int .i64 op,.int .i64 (k:Int),.int .i64 (j:Int),.int .u16 im,.int .u16 ax,.int .i64 bk,.int .i64 sz] 58)) (exP E.I E.T ⟨op,k,(j:Int),im,ax,bk,sz⟩ S) e w' from HE.out▸aY.of hp));obtain⟨r,hr⟩:∃ r,exP E.I E.T ⟨op,k,(j:Int),im,ax,bk,sz⟩ S=r:=⟨_,rfl⟩;rw[hr] at HC⊢;have r0:(op==0)=false:=by simpa using(show op≠0 by omega)
 have r84:(op==84)=false:=by simpa using(show op≠84 by omega)
 have r85:(op==85)=false:=by simpa using(show op≠85 by omega)
 have r86:(op==86)=false:=by simpa using(show op≠86 by omega)
 have r87:(op==87)=false:=by simpa using(show op≠87 by omega)
 have r80:(op==80)=false:=by simpa using(show op≠80 by omega)
 have r81:(op==81)=false:=by simpa using(show op≠81 by omega)
 have r82:(op==82)=false:=by simpa using(show op≠82 by omega)
 have r83:(op==83)=false:=by simpa using(show op≠83 by omega)
 have r146:(op==146)=false:=by simpa using(show op≠146 by omega)
 have r147:(op==147)=false:=by simpa using(show op≠147 by omega)
 have r150:(op==150)=false:=by simpa using(show op≠150 by omega)
 have r88:(op==88)=false:=by simpa using(show op≠88 by omega)
 have r89:(op==89)=false:=by simpa using(show op≠89 by omega)
 have r90:(op==90)=false:=by simpa using(show op≠90 by omega)
 have r91:(op==91)=false:=by simpa using(show op≠91 by omega)
 have r16:(op==16)=false:=by simpa using(show op≠16 by omega)
 have r17:(op==17)=false:=by simpa using(show op≠17 by omega)
 have r20:(op==20)=false:=by simpa using(show op≠20 by omega)
 have r5:(op==5)=false:=by simpa using(show op≠5 by omega)
 have r21:(op==21)=false:=by simpa using(show op≠21 by omega)
 have r160:(op==160)=false:=by simpa using(show op≠160 by omega)
 have r161:(op==161)=false:=by simpa using(show op≠161 by omega)
 have r162:(op==162)=false:=by simpa using(show op≠162 by omega)
 have r163:(op==163)=false:=by simpa using(show op≠163 by omega)
 have r128:(op==128)=false:=by simpa using(show op≠128 by omega)
 have r129:(op==129)=false:=by simpa using(show op≠129 by omega)
 have r130:(op==130)=false:=by simpa using(show op≠130 by omega)
 have r131:(op==131)=false:=by simpa using(show op≠131 by omega)
 have r132:(op==132)=false:=by simpa using(show op≠132 by omega)
 have r1:(op==1)=false:=by simpa using(show op≠1 by omega)
 have r133:(op==133)=false:=by simpa using(show op≠133 by omega)
 have r134:(op==134)=false:=by simpa using(show op≠134 by omega)
 have r2:(op==2)=false:=by simpa using(show op≠2 by omega)
 have r144:(op==144)=false:=by simpa using(show op≠144 by omega)
 have r145:(op==145)=false:=by simpa using(show op≠145 by omega)
 have r4:(op==4)=false:=by simpa using(show op≠4 by omega)
 have r3:(op==3)=false:=by simpa using(show op≠3 by omega)
 clear h hr hm hz HE;go_enter Tryz.func63,Tryz.ntmps63
 go_wp2_with fail
 refine HC.out.mono ?_;rintro e w1 hp;cases r with
 | ok S'=>
  obtain⟨rfl,hp⟩:=hp;have HP:=Nc hp;clear hp;go_wp2_with fail
  go_end0
  exact aY.pre (R:= .ok S') ⟨rfl,HP.out⟩ HG.out
 | tr t x=>
  obtain⟨rfl,hp⟩:=hp;have HP:=Nc hp;clear hp;go_wp2_with fail
  exact⟨rfl,aY.pre (R:= .tr t x) ⟨rfl,HP.out⟩ HG.out⟩
theorem Gs(E:Env)(ov:Value)(S:Ms)(op:Int)(k j:Nat)(im ax bk sz:Int)(w:World)(h:Mc E ov S w)(hz:Opz E)(hd:k < 8)(hj:j < 8)(hm:U16 im)(ho:(48≤op∧op≤62)∨(64≤op∧op≤78)):
  Calls Tryz.prog 63 #[.pointer (some ⟨E.b,0,none⟩),.agg #[.int .i64 op,.int .i64 (k:Int),.int .i64 (j:Int),.int .u16 im,.int .u16 ax,.int .i64 bk,.int .i64 sz]] w fun e w'=>aY E ov S w (exP E.I E.T ⟨op,k,(j:Int),im,ax,bk,sz⟩ S) e w':=by
 obtain⟨n0,n1,n2,n3,n4,n5,n6⟩:=aG w op k (j:Int) im ax bk sz;have H:=Nc (h.alloc (.cells #[.int .i64 op,.int .i64 (k:Int),.int .i64 (j:Int),.int .u16 im,.int .u16 ax,.int .i64 bk,.int .i64 sz] 58));have HG:=Nc (aJ (ah w (some E.b)) (.cells #[.int .i64 op,.int .i64 (k:Int),.int .i64 (j:Int),.int .u16 im,.int .u16 ax,.int .i64 bk,.int .i64 sz] 58));have HE:=Nc (show exP E.I E.T ⟨op,k,(j:Int),im,ax,bk,sz⟩ S=arP S (32+op%16) k im by
  unfold exP;simp only;rw[if_neg (by omega),if_neg (by omega),if_neg (by omega),if_neg (by omega),if_neg (by omega),if_neg (by omega),if_neg (by omega),if_neg (by omega),if_neg (by omega),if_neg (by omega),if_neg (by omega),if_neg (by omega),if_neg (by omega),if_neg (by omega),if_neg (by omega),if_neg (by omega),if_neg (by omega),if_neg (by omega),if_neg (by omega),if_neg (by omega),if_neg (by omega),if_neg (by omega),if_neg (by omega),if_neg (by omega),if_neg (by omega),if_neg (by omega),if_neg (by omega),if_neg (by omega),if_neg (by omega),if_neg (by omega),if_pos (by omega)]
  try rfl)
 have HC:=Nc ((Ej E ov S op k j im ax bk sz _ H.out hz hd hj hm ho).mono fun e w' hp=>(show aY E ov S (w.alloc (.cells #[.int .i64 op,.int .i64 (k:Int),.int .i64 (j:Int),.int .u16 im,.int .u16 ax,.int .i64 bk,.int .i64 sz] 58)) (exP E.I E.T ⟨op,k,(j:Int),im,ax,bk,sz⟩ S) e w' from HE.out▸aY.of hp));obtain⟨r,hr⟩:∃ r,exP E.I E.T ⟨op,k,(j:Int),im,ax,bk,sz⟩ S=r:=⟨_,rfl⟩;rw[hr] at HC⊢;have r0:(op==0)=false:=by simpa using(show op≠0 by omega)
 have r84:(op==84)=false:=by simpa using(show op≠84 by omega)
 have r85:(op==85)=false:=by simpa using(show op≠85 by omega)
 have r86:(op==86)=false:=by simpa using(show op≠86 by omega)
 have r87:(op==87)=false:=by simpa using(show op≠87 by omega)
 have r80:(op==80)=false:=by simpa using(show op≠80 by omega)
 have r81:(op==81)=false:=by simpa using(show op≠81 by omega)
 have r82:(op==82)=false:=by simpa using(show op≠82 by omega)
 have r83:(op==83)=false:=by simpa using(show op≠83 by omega)
 have r146:(op==146)=false:=by simpa using(show op≠146 by omega)
 have r147:(op==147)=false:=by simpa using(show op≠147 by omega)
 have r150:(op==150)=false:=by simpa using(show op≠150 by omega)
 have r88:(op==88)=false:=by simpa using(show op≠88 by omega)
 have r89:(op==89)=false:=by simpa using(show op≠89 by omega)
 have r90:(op==90)=false:=by simpa using(show op≠90 by omega)
 have r91:(op==91)=false:=by simpa using(show op≠91 by omega)
 have r16:(op==16)=false:=by simpa using(show op≠16 by omega)
 have r17:(op==17)=false:=by simpa using(show op≠17 by omega)
 have r20:(op==20)=false:=by simpa using(show op≠20 by omega)
 have r5:(op==5)=false:=by simpa using(show op≠5 by omega)
 have r21:(op==21)=false:=by simpa using(show op≠21 by omega)
 have r160:(op==160)=false:=by simpa using(show op≠160 by omega)
 have r161:(op==161)=false:=by simpa using(show op≠161 by omega)
 have r162:(op==162)=false:=by simpa using(show op≠162 by omega)
 have r163:(op==163)=false:=by simpa using(show op≠163 by omega)
 have r128:(op==128)=false:=by simpa using(show op≠128 by omega)
 have r129:(op==129)=false:=by simpa using(show op≠129 by omega)
 have r130:(op==130)=false:=by simpa using(show op≠130 by omega)
 have r131:(op==131)=false:=by simpa using(show op≠131 by omega)
 have r132:(op==132)=false:=by simpa using(show op≠132 by omega)
 have r1:(op==1)=false:=by simpa using(show op≠1 by omega)
 have r133:(op==133)=false:=by simpa using(show op≠133 by omega)
 have r134:(op==134)=false:=by simpa using(show op≠134 by omega)
 have r2:(op==2)=false:=by simpa using(show op≠2 by omega)
 have r144:(op==144)=false:=by simpa using(show op≠144 by omega)
 have r145:(op==145)=false:=by simpa using(show op≠145 by omega)
 have r4:(op==4)=false:=by simpa using(show op≠4 by omega)
 have r3:(op==3)=false:=by simpa using(show op≠3 by omega)
 clear h hr hm hz HE;go_enter Tryz.func63,Tryz.ntmps63
 go_wp2_with fail
 refine HC.out.mono ?_;rintro e w1 hp;cases r with
 | ok S'=>
  obtain⟨rfl,hp⟩:=hp;have HP:=Nc hp;clear hp;go_wp2_with fail
  go_end0
  exact aY.pre (R:= .ok S') ⟨rfl,HP.out⟩ HG.out
 | tr t x=>
  obtain⟨rfl,hp⟩:=hp;have HP:=Nc hp;clear hp;go_wp2_with fail
  exact⟨rfl,aY.pre (R:= .tr t x) ⟨rfl,HP.out⟩ HG.out⟩
end Go.Proofs.YthkcloapiefggaaGreatDoor
