import Derived.Laws.BitsAll
import Derived.WalkKit
import Derived.WalkLawsBesides
import Derived.Lib.Hide
import Derived.Test.YthkcloapiefggaaGreatDoorRows
import Derived.Below
import Derived.Deep.DeepCutAuto
import Derived.Deep.RegionHeld3
import Derived.Maps.Own
import Derived.Maps.OwnOps
import Derived.Maps.OwnSet
import Derived.OneCell
namespace Go.Proofs.YthkcloapiefggaaGreatDoor
theorem Nc {p:Prop}(h:p):RowKit.Hid p:=Lib.hid h
set_option linter.unusedVariables false
set_option linter.unusedSimpArgs false
def half(r:Int):Int:=if r=0 then 1 else if 32768≤r then 2 else 0
def sgn(a:Int):Int:=if a < 32768 then a else a-65536
def cin(c:Bool):Int:=if c=true then 1 else 0
def ovf(s:Int):Int:=if s < -32768∨32767 < s then 8 else 0
def ou(a b:Int)(c:Bool):Int:=(a+b+cin c)%65536
def qZ(a b:Int)(c:Bool):Int:=half (ou a b c)+(if 65536≤a+b+cin c then 4 else 0)+ovf (sgn a+sgn b+cin c)
def oJ(a b:Int)(c:Bool):Int:=(a-b-(1-cin c))%65536
def oK(a b:Int)(c:Bool):Int:=half (oJ a b c)+(if 0≤a-b-(1-cin c) then 4 else 0)+ovf (sgn a-sgn b-(1-cin c))
theorem fH(r:Int):half r=0∨half r=1∨half r=2:=by
 unfold half;split
 ·simp
 ·split<;>simp
theorem Et(r:Int)(h0:0≤r)(h1:r < 65536):bits .and .u16 r 32768=if 32768≤r then 32768 else 0:=by
 rw[u16_and r 32768 h0 h1 (by omega) (by omega)];simp only[Int.reduceToNat,nat_bit15]
 split<;>omega
theorem or4(x:Int)(h:x=0∨x=1∨x=2):bits .or .u16 x 4=x+4:=by
 rcases h with rfl|rfl|rfl<;>decide
theorem or8(x:Int)(h:x=0∨x=1∨x=2):bits .or .u16 x 8=x+8:=by
 rcases h with rfl|rfl|rfl<;>decide
theorem JQ(x:Int)(h:x=0∨x=1∨x=2):bits .or .u16 (x+4) 8=x+12:=by
 rcases h with rfl|rfl|rfl<;>decide
theorem A8(n:Int):IntKind.i16.wrap n=(n+32768)%65536-32768:=by simp[IntKind.wrap,IntKind.bits,IntKind.signed];omega
theorem ed(a:Int)(h0:0≤a)(h1:a < 65536):IntKind.i16.wrap a=sgn a:=by
 rw[A8];unfold sgn;split<;>omega
theorem jW(a:Int)(h0:0≤a)(h1:a < 65536): -32768≤sgn a∧sgn a≤32767:=by
 unfold sgn;split<;>omega
theorem FZ(a b k:Int)(a0:0≤a)(a1:a < 65536)(b0:0≤b)(b1:b < 65536)(k0:0≤k)(k1:k≤1):
  ovf (sgn a+sgn b+k)=if sgn a+sgn b+k=sgn ((a+b+k)%65536) then 0 else 8:=by
 unfold ovf sgn;by_cases ha:a < 32768<;>by_cases hb:b < 32768<;>by_cases hr:(a+b+k)%65536 < 32768<;>simp only[ha,hb,hr,if_true,if_false]<;>split<;>split<;>omega
theorem tC(a b R:Int)(c:Bool)(n t:Int)(a0:0≤a)(a1:a < 65536)(b0:0≤b)(b1:b < 65536)(hR:R=(a+b+cin c)%65536)
  (hn:n=if 65536≤a+b+cin c then 4 else 0) (ht:t=if sgn a+sgn b+cin c=sgn R then 0 else 8):half R+n+t=qZ a b c:=by
 unfold qZ ou;rw[FZ a b (cin c) a0 a1 b0 b1 (by cases c<;>simp[cin]) (by cases c<;>simp[cin]),← hR,hn,ht]
theorem uX(a b:Int)(c:Bool):ou a (65535-b) c=oJ a b c:=by
 unfold ou oJ;cases c<;>simp only[cin]<;>omega
theorem E5(b:Int)(b0:0≤b)(b1:b < 65536):sgn (65535-b)= - 1-sgn b:=by
 unfold sgn;split<;>split<;>omega
theorem Bg(a b:Int)(c:Bool)(b0:0≤b)(b1:b < 65536):qZ a (65535-b) c=oK a b c:=by
 unfold qZ oK;rw[uX,E5 b b0 b1];have e1:sgn a+(-1-sgn b)+cin c=sgn a-sgn b-(1-cin c):=by omega
 have e2:(65536≤a+(65535-b)+cin c)=(0≤a-b-(1-cin c)):=by apply propext;omega
 simp only[e1,e2]
theorem zU(b:Nat)(h:b < 65536):65535 ^^^ b=65535-b:=by
 have e:(BitVec.allOnes 16 ^^^ BitVec.ofNat 16 b)= ~~~ (BitVec.ofNat 16 b):=by rw[BitVec.allOnes_xor]
 have e2:=congrArg BitVec.toNat e;simp only[BitVec.toNat_xor,BitVec.toNat_not,BitVec.toNat_allOnes,BitVec.toNat_ofNat] at e2;rw[Nat.mod_eq_of_lt (show b < 2 ^ 16 from h)] at e2;exact e2
theorem He(b:Int)(b0:0≤b)(b1:b < 65536):bits .xor .u16 IntKind.u16.max b=65535-b:=by
 have e:IntKind.u16.max=65535:=by decide
 rw[e,u16_xor _ _ (by omega) (by omega) b0 b1];have:=zU b.toNat (by omega);simp only[Int.reduceToNat];omega
def iD(f r:Int):Int:=f/4%4*4+half r
theorem Lp(f:Int)(h0:0≤f)(h1:f < 65536):bits .and .u16 f 12=f/4%4*4:=by
 rw[u16_and f 12 h0 h1 (by omega) (by omega)];have:f.toNat &&& 12=f.toNat%16/4*4:=nat_midmask 4 2 f.toNat (by decide);simp only[Int.reduceToNat,this];omega
theorem wP(f:Int):f/4%4*4=0∨f/4%4*4=4∨f/4%4*4=8∨f/4%4*4=12:=by omega
theorem F7(x r:Int)(hx:x=0∨x=4∨x=8∨x=12):bits .or .u16 x (half r)=x+half r:=by
 rcases hx with rfl|rfl|rfl|rfl<;>rcases fH r with h|h|h<;>rw[h]<;>decide
theorem Ey(f r:Int):bits .or .u16 (f/4%4*4) (half r)=iD f r:=F7 _ _ (wP f)
open Go.ChangeShapes Go.WideShapes Go.RowKit
theorem qJ(r:Int)(w:World)(h0:0≤r)(h1:r < 65536):
  Calls Tryz.prog 126 #[.int .u16 r] w fun e w'=>e= .returned (.int .u16 (half r))∧w=w':=by
 have e1:bits .or .u16 0 1=1:=by decide
 have e2:bits .or .u16 0 2=2:=by decide
 by_cases c0:r=0
 ·subst c0
  have e3:bits .and .u16 0 32768=0:=by decide
  go_enter Tryz.func126,Tryz.ntmps126
  go_wp2
  go_ret
  exact⟨rfl,rfl⟩
 ·by_cases c1:32768≤r
  ·have e3:bits .and .u16 r 32768=32768:=by rw[Et r h0 h1,if_pos c1]
   go_enter Tryz.func126,Tryz.ntmps126
   go_wp2
   go_ret
   exact⟨by simp[half,c0,c1],rfl⟩
  ·have e3:bits .and .u16 r 32768=0:=by rw[Et r h0 h1,if_neg c1]
   go_enter Tryz.func126,Tryz.ntmps126
   go_wp2
   go_ret
   exact⟨by simp[half,c0,c1],rfl⟩
theorem zG{k:IntKind}{a b c d:Int}(h:a=c)(g:b=d):Ending.returned (.tuple #[.int k a,.int k b])= .returned (.tuple #[.int k c,.int k d]):=by rw[h,g]
theorem kP{x y:Int}(h:(x != y)=true):¬ x=y:=bne_iff_ne.1 h
theorem kS{x y:Int}(h:(x != y)=false):x=y:=by simpa using h
theorem add_any(a b:Int)(c:Bool)(w:World)(a0:0≤a)(a1:a < 65536)(b0:0≤b)(b1:b < 65536):
  Calls Tryz.prog 84 #[.int .u16 a,.int .u16 b,.bool c] w fun e w'=>e= .returned (.tuple #[.int .u16 (ou a b c),.int .u16 (qZ a b c)])∧w=w':=by
 have hA:=ed a a0 a1;have hB:=ed b b0 b1;obtain⟨A0,A1⟩:=jW a a0 a1;obtain⟨B0,B1⟩:=jW b b0 b1;cases c
 ·obtain⟨R,hR,R0,R1,hm⟩:∃ R,IntKind.u16.wrap (a+b)=R∧0≤R∧R < 65536∧Hid (R=(a+b)%65536):=⟨_,rfl,by rw[IntKind.wrap_u16];omega,by rw[IntKind.wrap_u16];omega,Nc (IntKind.wrap_u16 _)⟩
  have hS:=ed R R0 R1;obtain⟨S0,S1⟩:=jW R R0 R1;have o4:=or4 _ (fH R);have o8:=or8 _ (fH R);have o48:=JQ _ (fH R);go_enter Tryz.func84,Tryz.ntmps84
  go_wp2_with (go_at_call 126;refine(qJ _ _ (by omega) (by omega)).mono ?_;rintro e w' ⟨rfl,rfl⟩)
  all_goals
   have fin:=fun n t=>tC a b R false n t a0 a1 b0 b1 (by rw[hm.out];simp[cin])
   go_ret2
   refine⟨zG (by rw[hm.out];simp[ou,cin]) ?_,rfl⟩
  ·rw[← fin 4 8 (by rw[if_pos];simp[cin];omega) (by rw[if_neg];simpa [cin] using kP ‹_›)];omega
  ·rw[← fin 4 0 (by rw[if_pos];simp[cin];omega) (by rw[if_pos];simpa [cin] using kS ‹_›)];omega
  ·rw[← fin 0 8 (by rw[if_neg];simp[cin];omega) (by rw[if_neg];simpa [cin] using kP ‹_›)];omega
  ·rw[← fin 0 0 (by rw[if_neg];simp[cin];omega) (by rw[if_pos];simpa [cin] using kS ‹_›)];omega
 ·obtain⟨R,hR,R0,R1,hm⟩:∃ R,IntKind.u16.wrap (a+b+1)=R∧0≤R∧R < 65536∧Hid (R=(a+b+1)%65536):=⟨_,rfl,by rw[IntKind.wrap_u16];omega,by rw[IntKind.wrap_u16];omega,Nc (IntKind.wrap_u16 _)⟩
  have hS:=ed R R0 R1;obtain⟨S0,S1⟩:=jW R R0 R1;have o4:=or4 _ (fH R);have o8:=or8 _ (fH R);have o48:=JQ _ (fH R);go_enter Tryz.func84,Tryz.ntmps84
  go_wp2_with (go_at_call 126;refine(qJ _ _ (by omega) (by omega)).mono ?_;rintro e w' ⟨rfl,rfl⟩)
  all_goals
   have fin:=fun n t=>tC a b R true n t a0 a1 b0 b1 (by rw[hm.out];simp[cin])
   go_ret2
   refine⟨zG (by rw[hm.out];simp[ou,cin]) ?_,rfl⟩
  ·rw[← fin 4 8 (by rw[if_pos];simp[cin];omega) (by rw[if_neg];simpa [cin] using kP ‹_›)];omega
  ·rw[← fin 4 0 (by rw[if_pos];simp[cin];omega) (by rw[if_pos];simpa [cin] using kS ‹_›)];omega
  ·rw[← fin 0 8 (by rw[if_neg];simp[cin];omega) (by rw[if_neg];simpa [cin] using kP ‹_›)];omega
  ·rw[← fin 0 0 (by rw[if_neg];simp[cin];omega) (by rw[if_pos];simpa [cin] using kS ‹_›)];omega
theorem tV(a b:Int)(c:Bool)(w:World)(a0:0≤a)(a1:a < 65536)(b0:0≤b)(b1:b < 65536):
  Calls Tryz.prog 88 #[.int .u16 a,.int .u16 b,.bool c] w fun e w'=>e= .returned (.tuple #[.int .u16 (oJ a b c),.int .u16 (oK a b c)])∧w=w':=by
 have hn:=He b b0 b1;go_enter Tryz.func88,Tryz.ntmps88
 have hsg:IntKind.u16.signed=false:=rfl;go_wp2_with fail
 refine(add_any _ _ _ _ a0 a1 (by omega) (by omega)).mono ?_;rintro e w' ⟨rfl,rfl⟩;go_wp2_with fail
 go_ret2
 exact⟨zG (uX a b c) (Bg a b c b0 b1),rfl⟩
theorem gW(f r:Int)(w:World)(f0:0≤f)(f1:f < 65536)(r0:0≤r)(r1:r < 65536):
  Calls Tryz.prog 128 #[.int .u16 f,.int .u16 r] w fun e w'=>e= .returned (.int .u16 (iD f r))∧w=w':=by
 have h1:=Lp f f0 f1;have h2:=Ey f r;go_enter Tryz.func128,Tryz.ntmps128
 go_wp2_with (go_at_call 126;refine(qJ _ _ r0 r1).mono ?_;rintro e w' ⟨rfl,rfl⟩)
 go_ret
 exact⟨rfl,rfl⟩
theorem eX{k:IntKind}{a b:Int}(h:a=b):Ending.returned (.int k a)= .returned (.int k b):=by rw[h]
theorem dX(f k:Int)(h:0≤f):f.tdiv k=f/k:=Int.tdiv_eq_ediv_of_nonneg h
theorem bu(f k:Int)(h:0≤f):f.tmod k=f%k:=Int.tmod_eq_emod_of_nonneg h
theorem u16_in(n:Int)(h0:0≤n)(h1:n < 65536):IntKind.u16.wrap n=n:=by rw[IntKind.wrap_u16];omega
structure Ob where
 b:Int
 a:Int
 z:Int
structure Rl where
 b:Int
 o:Int
structure Im where
 banks:List ByteArray
 en:Int
 ve:Int
 data:List Ob
 rel:List Rl
instance:Inhabited Ob:=⟨⟨0,0,0⟩⟩
instance:Inhabited Rl:=⟨⟨0,0⟩⟩
def yY:Int:= -9223372036854775808
def yZ:Int:=9223372036854775807
structure Ob.Ok(o:Ob):Prop where
 b0:yY≤o.b
 b1:o.b≤yZ
 a0:0≤o.a
 a1:o.a < 65536
 z0:0≤o.z
 z1:o.z < 65536
structure Rl.Ok(r:Rl):Prop where
 b0:yY≤r.b
 b1:r.b≤yZ
 o0:0≤r.o
 o1:r.o < 65536
structure Im.Ok(I:Im):Prop where
 e0:0≤I.en
 e1:I.en < 65536
 v0:0≤I.ve
 v1:I.ve < 65536
 bs:∀ b∈I.banks,b.size≤maxLen
 ob:∀ o∈I.data,o.Ok
 rl:∀ r∈I.rel,r.Ok
 n0:I.banks.length≤1000000000
 n1:I.data.length≤1000000000
 n2:I.rel.length≤1000000000
def sV(l:List ByteArray):List Value:=l.map Value.string
def obC(l:List Ob):List Value:=l.flatMap fun o=>[.int .i64 o.b,.int .u16 o.a,.int .u16 o.z]
def rlC(l:List Rl):List Value:=l.flatMap fun r=>[.int .i64 r.b,.int .u16 r.o]
def Sl(w:World)(p:Option Addr)(cs:List Value):Prop:=∀ j x,cs[j]? =some x→∃ g,p=some ⟨g,0,none⟩∧w.cell? ⟨g,j,none⟩=some x
structure Pl where
 p0:Option Addr
 c0:Nat
 p1:Option Addr
 c1:Nat
 p2:Option Addr
 c2:Nat
def imV(P:Pl)(I:Im):Value:= .agg #[.slice P.p0 I.banks.length P.c0,.int .u16 I.en,.int .u16 I.ve,.slice P.p1 I.data.length P.c1,.slice P.p2 I.rel.length P.c2]
structure Has(w:World)(P:Pl)(I:Im):Prop where
 s0:Sl w P.p0 (sV I.banks)
 s1:Sl w P.p1 (obC I.data)
 s2:Sl w P.p2 (rlC I.rel)
theorem Sl.below{w w':World}{p:Option Addr}{cs:List Value}(h:Sl w p cs)(hb:Below w.heap.size w w'):Sl w' p cs:=fun j x hx=>by
 obtain⟨g,hg,hc⟩:=h j x hx;exact⟨g,hg,(hb.cell (p:=⟨g,j,none⟩) (World.block_lt_of_cell? _ _ hc)).trans hc⟩
theorem Has.below{w w':World}{P:Pl}{I:Im}(h:Has w P I)(hb:Below w.heap.size w w'):Has w' P I:=⟨h.s0.below hb,h.s1.below hb,h.s2.below hb⟩
theorem Sl.alloc{w:World}{p:Option Addr}{cs:List Value}(h:Sl w p cs)(o:Obj):Sl (w.alloc o) p cs:=h.below ((Below.refl _ _).alloc (Nat.le_refl _) o)
theorem Sl.drew{w:World}{p:Option Addr}{cs:List Value}(h:Sl w p cs):Sl w.drew p cs:=h.below (Below.refl _ _).drew
theorem Sl.nil(w:World)(p:Option Addr):Sl w p []:=fun j x h=>by simp at h
theorem Sl.own{w:World}{base n k:Nat}{e:TypeId}{v:Value}{cs:List Value}(h:w.ownsRow base e k v n cs):∃ p cap,v= .slice p n cap∧Sl w p cs:=by
 rcases h.2 with⟨rfl,rfl⟩|⟨g,cap,cur,rfl,hg⟩
 ·have:cs=[]:=by have:=h.1;simp at this;exact this
  exact⟨_,_,rfl,this▸Sl.nil _ _⟩
 ·refine⟨_,_,rfl,fun j x hx=>⟨g,rfl,?_⟩⟩
  have hj:j < cs.length:=(List.getElem?_eq_some_iff.1 hx).1;rw[h.cellAt j (by rw[← h.1];exact hj),hx]
theorem CX(o:Ob)(r:List Ob):obC (o::r)= .int .i64 o.b:: .int .u16 o.a:: .int .u16 o.z::obC r:=rfl
theorem BI(o:Rl)(r:List Rl):rlC (o::r)= .int .i64 o.b:: .int .u16 o.o::rlC r:=rfl
theorem IU(l:List Ob)(n:Nat)(o:Ob)(h:l[n]? =some o):(obC l)[n*3]? =some (.int .i64 o.b)∧(obC l)[n*3+1]? =some (.int .u16 o.a)∧(obC l)[n*3+2]? =some (.int .u16 o.z):=by
 induction l generalizing n with
 | nil=>simp at h
 | cons x r ih=>
  rw[CX]
  match n,h with
  | 0,h=>simp at h;subst h;exact⟨rfl,rfl,rfl⟩
  | n+1,h=>
   simp at h;have:=ih n h;rw[show(n+1)*3=n*3+3 by omega];simpa [List.getElem?_cons] using this
theorem IB(l:List Rl)(n:Nat)(r:Rl)(h:l[n]? =some r):(rlC l)[n*2]? =some (.int .i64 r.b)∧(rlC l)[n*2+1]? =some (.int .u16 r.o):=by
 induction l generalizing n with
 | nil=>simp at h
 | cons x q ih=>
  rw[BI]
  match n,h with
  | 0,h=>simp at h;subst h;exact⟨rfl,rfl⟩
  | n+1,h=>
   simp at h;have:=ih n h;rw[show(n+1)*2=n*2+2 by omega];simpa [List.getElem?_cons] using this
theorem Sl.ob{w:World}{p:Option Addr}{l:List Ob}(h:Sl w p (obC l)){n:Nat}{o:Ob}(hn:l[n]? =some o):
  ∃ g,p=some ⟨g,0,none⟩∧w.cell? ⟨g,n*3,none⟩=some (.int .i64 o.b)∧w.cell? ⟨g,n*3+1,none⟩=some (.int .u16 o.a)∧w.cell? ⟨g,n*3+2,none⟩=some (.int .u16 o.z):=by
 obtain⟨c0,c1,c2⟩:=IU l n o hn;obtain⟨g,hp,h0⟩:=h _ _ c0;obtain⟨g1,hp1,h1⟩:=h _ _ c1;obtain⟨g2,hp2,h2⟩:=h _ _ c2;rw[hp] at hp1 hp2;injection hp1 with e1;injection e1 with e1;injection hp2 with e2;injection e2 with e2;subst e1;subst e2;exact⟨g,hp,h0,h1,h2⟩
theorem Sl.rl{w:World}{p:Option Addr}{l:List Rl}(h:Sl w p (rlC l)){n:Nat}{o:Rl}(hn:l[n]? =some o):
  ∃ g,p=some ⟨g,0,none⟩∧w.cell? ⟨g,n*2,none⟩=some (.int .i64 o.b)∧w.cell? ⟨g,n*2+1,none⟩=some (.int .u16 o.o):=by
 obtain⟨c0,c1⟩:=IB l n o hn;obtain⟨g,hp,h0⟩:=h _ _ c0;obtain⟨g1,hp1,h1⟩:=h _ _ c1;rw[hp] at hp1;injection hp1 with e1;injection e1 with e1;subst e1;exact⟨g,hp,h0,h1⟩
theorem Sl.aF{w:World}{p:Option Addr}{l:List ByteArray}(h:Sl w p (sV l)){n:Nat}{s:ByteArray}(hn:l[n]? =some s):
  ∃ g,p=some ⟨g,0,none⟩∧w.cell? ⟨g,n,none⟩=some (.string s):=h n (.string s) (by simp[sV,hn])
def first(p:Nat→Bool):Nat→Option Nat
 | 0=>none
 | n+1=>match first p n with
  | some k=>some k
  | none=>if p n then some n else none
def ob(l:List Ob)(n:Nat):Ob:=l.getD n default
def rl(l:List Rl)(n:Nat):Rl:=l.getD n default
def bk(l:List ByteArray)(n:Nat):ByteArray:=l.getD n default
theorem jQ{l:List ByteArray}{n:Nat}(h:n < l.length):l[n]? =some (bk l n):=by unfold bk;simp[List.getD,h]
theorem ji{l:List ByteArray}{n:Nat}(h:n < l.length):bk l n∈l:=List.mem_of_getElem? (jQ h)
theorem lt_of_block{w:World}{k:Nat}{x:Obj}(h:w.heap[k]? =some x):k < w.heap.size:=by
 have:=Array.getElem?_eq_some_iff.1 h;exact this.1
theorem aj(w:World)(o:Obj)(k:Nat){x:Obj}(h:w.heap[k]? =some x):(w.alloc o).heap[k]? =some x:=by
 rw[Below.heap_alloc _ _ _ (lt_of_block h)];exact h
theorem bZ{w:World}{a:Addr}{v:Value}(h:w.cell? a=some v)(o:Obj):(w.alloc o).cell? a=some v:=
 (World.cell?_of_block (Below.heap_alloc _ _ _ (World.block_lt_of_cell? w a h))).trans h
theorem jA{w w':World}{a:Addr}{v:Value}(h:w.cell? a=some v)(hb:Below w.heap.size w w'):w'.cell? a=some v:=(hb.cell (World.block_lt_of_cell? _ _ h)).trans h
theorem af{w w':World}{k:Nat}{x:Obj}(h:w.heap[k]? =some x)(hb:Below w.heap.size w w'):w'.heap[k]? =some x:=(hb.block k (lt_of_block h)).trans h
theorem below_grown{w w':World}(hb:Below w.heap.size w w'):w.grownBy w' none:=⟨hb.os,hb.tape,hb.output,hb.size,fun k hk _=>hb.block k hk⟩
theorem bP(w:World)(g j:Nat)(v:Value)(cs:Array Value)(t:TypeId)(f:Nat × Nat)(h:w.heap[g]? =some (.cells cs t f)):(w.setCell ⟨g,j,none⟩ v).heap[g]? =some (.cells (cs.setIfInBounds j v) t f):=by
 simp only[World.setCell,Array.getElem?_modify];rw[h];simp
theorem dn(w:World)(a:Addr)(v:Value)(k:Nat)(h:k≠a.block):(w.setCell a v).heap[k]? =w.heap[k]? :=Below.heap_setCell w a v k h
theorem below_drewN{B n:Nat}{a w:World}(h:Below B a w):Below B a (w.drewN n):=⟨h.os,h.tape,h.output,h.size,h.block⟩
theorem ae{w:World}{k:Nat}{cs:Array Value}{t:TypeId}{f:Nat × Nat}(h:w.heap[k]? =some (.cells cs t f))(j:Nat)(v:Value)(hv:cs[j]? =some v):w.cell? ⟨k,j,none⟩=some v:=by
 unfold World.cell?;rw[h];exact hv
set_option maxRecDepth 100000
theorem BJ{a b:Bool}(h:a=b):(Ending.returned (.bool a))=Ending.returned (.bool b):=by rw[h]
theorem xB(b n:Int)(w:World):Calls Tryz.prog 167 #[.int .i64 b,.int .i64 n] w fun e w'=>e= .returned (.bool (decide (0≤b) && decide (b < n)))∧w=w':=by
 by_cases h:0≤b
 ·go_enter Tryz.func167,Tryz.ntmps167
  go_wp2_with fail
  go_ret
  exact⟨BJ (by simp[h]),rfl⟩
 ·go_enter Tryz.func167,Tryz.ntmps167
  go_wp2_with fail
  go_ret
  exact⟨BJ (by simp;omega),rfl⟩
def part(b a:Int):Int:=if b=0∧a < 4096 then 1 else if 0≤b∧b < 64∧4096≤a∧a < 8192 then 2 else 0
def jg(k:Int):Int:=if k=2 then 4096 else 0
def ry(k:Int):Int:=if k=1 then 4096 else if k=2 then 8192 else 0
theorem retq{a b:Bool}{n m x y:Int}(h:n=m)(g:x=y)(k:a=b):Ending.returned (.tuple #[.int .i64 n,.int .i64 x,.bool a])= .returned (.tuple #[.int .i64 m,.int .i64 y,.bool b]):=by rw[h,g,k]
set_option maxHeartbeats 1000000 in
theorem ql(b a:Int)(w:World)(a0:0≤a)(a1:a < 65536):
  Calls Tryz.prog 159 #[.agg #[.int .i64 b,.int .u16 a]] w fun e w'=>e= .returned (.tuple #[.int .i64 (jg (part b a)),.int .i64 (ry (part b a)),.bool (part b a != 0)])∧Below w.heap.size w w':=by
 have HB:=Nc ((Below.refl _ w).alloc (Nat.le_refl _) (.cells #[.int .i64 b,.int .u16 a] 77));by_cases h1:b=0∧a < 4096
 ·have HP:=Nc (show part b a=1 by unfold part;rw[if_pos h1])
  obtain⟨rfl,h2⟩:=h1;go_enter Tryz.func159,Tryz.ntmps159
  go_wp2_with fail
  go_ret3
  exact⟨retq (by rw[HP.out];rfl) (by rw[HP.out];rfl) (by rw[HP.out];rfl),HB.out⟩
 have HI:=Nc (fun w=>xB b 64 w);by_cases h2:0≤b∧b < 64
 ·rw [decide_eq_true h2.1,decide_eq_true h2.2] at HI
  simp only[Bool.and_self] at HI;by_cases h3:4096≤a
  ·by_cases h4:a < 8192
   ·have HP:=Nc (show part b a=2 by unfold part;rw[if_neg h1,if_pos ⟨h2.1,h2.2,h3,h4⟩])
    clear h2;by_cases h5:b=0
    ·subst h5
     clear h1;go_enter Tryz.func159,Tryz.ntmps159
     go_wp2_with fail
     refine(HI.out _).mono ?_;rintro e w1 ⟨rfl,rfl⟩;go_wp2_with fail
     go_ret3
     exact⟨retq (by rw[HP.out];rfl) (by rw[HP.out];rfl) (by rw[HP.out];rfl),HB.out⟩
    ·clear h1
     go_enter Tryz.func159,Tryz.ntmps159
     go_wp2_with fail
     refine(HI.out _).mono ?_;rintro e w1 ⟨rfl,rfl⟩;go_wp2_with fail
     go_ret3
     exact⟨retq (by rw[HP.out];rfl) (by rw[HP.out];rfl) (by rw[HP.out];rfl),HB.out⟩
   ·have HP:=Nc (show part b a=0 by unfold part;rw[if_neg h1,if_neg (by omega)])
    clear h2;by_cases h5:b=0
    ·subst h5
     clear h1;go_enter Tryz.func159,Tryz.ntmps159
     go_wp2_with fail
     refine(HI.out _).mono ?_;rintro e w1 ⟨rfl,rfl⟩;go_wp2_with fail
     go_ret3
     exact⟨retq (by rw[HP.out];rfl) (by rw[HP.out];rfl) (by rw[HP.out];rfl),HB.out⟩
    ·clear h1
     go_enter Tryz.func159,Tryz.ntmps159
     go_wp2_with fail
     refine(HI.out _).mono ?_;rintro e w1 ⟨rfl,rfl⟩;go_wp2_with fail
     go_ret3
     exact⟨retq (by rw[HP.out];rfl) (by rw[HP.out];rfl) (by rw[HP.out];rfl),HB.out⟩
  ·have HP:=Nc (show part b a=0 by unfold part;rw[if_neg h1,if_neg (by omega)])
   have h5:¬ b=0:=by omega
   clear h2 h1;go_enter Tryz.func159,Tryz.ntmps159
   go_wp2_with fail
   refine(HI.out _).mono ?_;rintro e w1 ⟨rfl,rfl⟩;go_wp2_with fail
   go_ret3
   exact⟨retq (by rw[HP.out];rfl) (by rw[HP.out];rfl) (by rw[HP.out];rfl),HB.out⟩
 ·have h3:(decide (0≤b) && decide (b < 64))=false:=by simp only[Bool.and_eq_false_iff,decide_eq_false_iff_not];omega
  rw[h3] at HI;have HP:=Nc (show part b a=0 by unfold part;rw[if_neg h1,if_neg (by omega)]);have h5:¬ b=0:=by omega
  clear h1 h2 h3;go_enter Tryz.func159,Tryz.ntmps159
  go_wp2_with fail
  refine(HI.out _).mono ?_;rintro e w1 ⟨rfl,rfl⟩;go_wp2_with fail
  go_ret3
  exact⟨retq (by rw[HP.out];rfl) (by rw[HP.out];rfl) (by rw[HP.out];rfl),HB.out⟩
def gU(I:Im)(b a:Int):Bool:=(part b a != 0) && decide (b < I.banks.length) && decide (a%4096 < (bk I.banks b.toNat).size)
def xx(t:Bool)(x:Int):Int:=if t=true then x else 0
theorem yN{b a:Int}(h:(part b a != 0)=true):0≤b:=by
 unfold part at h
 split at h
 ·omega
 ·split at h
  ·omega
  ·simp at h
theorem F9(I:Im)(b a:Int):gU I b a=((part b a != 0) && decide (b < I.banks.length) && decide (a%4096 < (bk I.banks b.toNat).size)):=rfl
set_option maxHeartbeats 1000000 in
theorem uq(P:Pl)(I:Im)(b a:Int)(w:World)(hI:I.Ok)(hh:Has w P I)(a0:0≤a)(a1:a < 65536):
  Calls Tryz.prog 134 #[imV P I,.agg #[.int .i64 b,.int .u16 a]] w fun e w'=>e= .returned (.tuple #[.int .i64 (xx (gU I b a) b),.int .i64 (xx (gU I b a) (a%4096)),.bool (gU I b a)])∧Below w.heap.size w w':=by
 have HR:=Nc (F9 I b a);have HHo:=Nc hh;have hn0:=hI.n0;have HBS:=Nc hI.bs;have HPt:=Nc (fun w=>ql b a w a0 a1);have HB0:=Nc (yN (b:=b) (a:=a));have hm:a.tmod 4096=a%4096:=Int.tmod_eq_emod_of_nonneg a0;unfold imV;obtain⟨p0,c0,p1,c1,p2,c2⟩:=P;obtain⟨banks,en,ve,data,rel⟩:=I;clear hI hh;simp only at HR HHo hn0 HBS⊢;have HB:=Nc (((Below.refl _ w).alloc (Nat.le_refl _) (.cells #[.slice p0 banks.length c0,.int .u16 en,.int .u16 ve,.slice p1 data.length c1,.slice p2 rel.length c2] 33)).alloc (by simp) (.cells #[.int .i64 b,.int .u16 a] 77));have HX1:=Nc (aj _ (.cells #[.int .i64 b,.int .u16 a] 77) _ (heap_alloc_new w (.cells #[.slice p0 banks.length c0,.int .u16 en,.int .u16 ve,.slice p1 data.length c1,.slice p2 rel.length c2] 33)));have HX2:=Nc (heap_alloc_new (w.alloc (.cells #[.slice p0 banks.length c0,.int .u16 en,.int .u16 ve,.slice p1 data.length c1,.slice p2 rel.length c2] 33)) (.cells #[.int .i64 b,.int .u16 a] 77));obtain⟨pf,hpf⟩:∃ pf,jg (part b a)=pf:=⟨_,rfl⟩;obtain⟨pe,hpe⟩:∃ pe,ry (part b a)=pe:=⟨_,rfl⟩;rw[hpf,hpe] at HPt;clear hpf hpe;cases hc:(part b a != 0) with
 | false=>
  rw[hc] at HPt HR;simp only[Bool.false_and] at HR;clear hc;go_enter Tryz.func134,Tryz.ntmps134
  go_wp2_with fail
  refine(HPt.out _).mono ?_;rintro e w1 ⟨rfl,hb⟩;have HB1:=Nc (HB.out.trans (hb.mono (by simp;omega)));clear hb;go_wp2_with fail
  go_ret3
  exact⟨retq (by rw[HR.out];rfl) (by rw[HR.out];rfl) (by rw[HR.out]),HB1.out⟩
 | true=>
  have hb0:=HB0.out hc;rw[hc] at HPt HR;simp only[Bool.true_and] at HR;clear hc;by_cases h1:b < banks.length
  ·obtain⟨k,rfl⟩:=Int.eq_ofNat_of_zero_le hb0
   have hk:k < banks.length:=by omega
   have hk1:(k:Int) < (banks.length:Int):=h1;obtain⟨g,hp,es⟩:=HHo.out.s0.aF (jQ hk);simp only at hp;subst hp;rw[decide_eq_true h1,show((k:Int)).toNat=k from rfl] at HR;simp only[Bool.true_and] at HR;have hsz:=HBS.out _ (ji hk);obtain⟨s,hs⟩:∃ s,bk banks k=s:=⟨_,rfl⟩;rw[hs] at es HR hsz;clear hs hk h1;have HS:=Nc hsz;clear hsz;have hmod0:0≤a%4096:=by omega
   obtain⟨m,hmm⟩:∃ m,a%4096=m:=⟨_,rfl⟩;rw[hmm] at hm hmod0 HR;rw[hmm];clear hmm;by_cases h2:m < s.size
   ·rw[decide_eq_true h2] at HR
    go_enter Tryz.func134,Tryz.ntmps134
    go_wp2_with fail
    refine(HPt.out _).mono ?_;rintro e w1 ⟨rfl,hb⟩;have HB1:=Nc (HB.out.trans (hb.mono (by simp;omega)));have y1:=af HX1.out hb;have y2:=af HX2.out hb;simp only[World.size_alloc] at y2;have es2:=jA (bZ (bZ es (.cells #[.slice (some ⟨g,0,none⟩) banks.length c0,.int .u16 en,.int .u16 ve,.slice p1 data.length c1,.slice p2 rel.length c2] 33)) (.cells #[.int .i64 (k:Int),.int .u16 a] 77)) hb;have f0:=ae y1 0 _ rfl;have f1:=ae y2 0 _ rfl;have f2:=ae y2 1 _ rfl;clear hb y1 y2 es;go_wp2_with fail
    go_ret3
    exact⟨retq (by rw[HR.out];rfl) (by rw[HR.out];rfl) (by rw[HR.out]),HB1.out⟩
   ·rw[decide_eq_false h2] at HR
    go_enter Tryz.func134,Tryz.ntmps134
    go_wp2_with fail
    refine(HPt.out _).mono ?_;rintro e w1 ⟨rfl,hb⟩;have HB1:=Nc (HB.out.trans (hb.mono (by simp;omega)));have y1:=af HX1.out hb;have y2:=af HX2.out hb;simp only[World.size_alloc] at y2;have es2:=jA (bZ (bZ es (.cells #[.slice (some ⟨g,0,none⟩) banks.length c0,.int .u16 en,.int .u16 ve,.slice p1 data.length c1,.slice p2 rel.length c2] 33)) (.cells #[.int .i64 (k:Int),.int .u16 a] 77)) hb;have f0:=ae y1 0 _ rfl;have f1:=ae y2 0 _ rfl;have f2:=ae y2 1 _ rfl;clear hb y1 y2 es;go_wp2_with fail
    go_ret3
    exact⟨retq (by rw[HR.out];rfl) (by rw[HR.out];rfl) (by rw[HR.out]),HB1.out⟩
  ·rw[decide_eq_false h1] at HR
   simp only[Bool.false_and] at HR;go_enter Tryz.func134,Tryz.ntmps134
   go_wp2_with fail
   refine(HPt.out _).mono ?_;rintro e w1 ⟨rfl,hb⟩;have HB1:=Nc (HB.out.trans (hb.mono (by simp;omega)));have y1:=af HX1.out hb;have y2:=af HX2.out hb;simp only[World.size_alloc] at y2;have f0:=ae y1 0 _ rfl;have f1:=ae y2 0 _ rfl;have f2:=ae y2 1 _ rfl;clear hb y1 y2;go_wp2_with fail
   go_ret3
   exact⟨retq (by rw[HR.out];rfl) (by rw[HR.out];rfl) (by rw[HR.out]),HB1.out⟩
def cdS(s:ByteArray)(m:Nat)(n:Int):ByteArray:=s.extract m (m+(min n (s.size-m:Int)).toNat)
def cdV(I:Im)(b a n:Int):ByteArray:=if gU I b a=false∨n < 1 then⟨#[]⟩ else cdS (bk I.banks b.toNat) (a%4096).toNat n
theorem IE{a b:ByteArray}(h:a=b):(Ending.returned (.string a))=Ending.returned (.string b):=by rw[h]
theorem kF(I:Im)(b a n:Int):cdV I b a n=if gU I b a=false∨n < 1 then⟨#[]⟩ else cdS (bk I.banks b.toNat) (a%4096).toNat n:=rfl
theorem jM{I:Im}{b a:Int}(h:gU I b a=true):0≤b∧b < I.banks.length∧a%4096 < (bk I.banks b.toNat).size:=by
 unfold gU at h;simp only[Bool.and_eq_true,decide_eq_true_eq] at h;exact⟨yN h.1.1,h.1.2,h.2⟩
theorem rG(s:ByteArray)(m j:Nat)(hm:m≤s.size):(s.extract m s.size).extract 0 j=s.extract m (m+j):=by
 apply ByteArray.ext;rw[ByteArray.data_extract,ByteArray.data_extract,ByteArray.data_extract,Array.extract_extract];apply Array.toList_inj.1;simp only[Array.toList_extract,List.extract,Nat.add_zero];rw[show m+j-m=j by omega];by_cases h:m+j≤s.size
 ·rw[show min (m+j) s.size=m+j by omega,show m+j-m=j by omega]
 ·rw[show min (m+j) s.size=s.size by omega]
  rw[List.take_of_length_le (by simp),List.take_of_length_le (by simp;omega)]
set_option maxHeartbeats 1000000 in
theorem Ed(P:Pl)(I:Im)(b a n:Int)(w:World)(hI:I.Ok)(hh:Has w P I)(a0:0≤a)(a1:a < 65536):
  Calls Tryz.prog 107 #[imV P I,.agg #[.int .i64 b,.int .u16 a],.int .i64 n] w fun e w'=>e= .returned (.string (cdV I b a n))∧Below w.heap.size w w':=by
 have HR:=Nc (kF I b a n);have HHo:=Nc hh;have HBS:=Nc hI.bs;have hn0:=hI.n0;have HO:=Nc (fun W (h:Has W P I)=>uq P I b a W hI h a0 a1);have HP:=Nc (jM (I:=I) (b:=b) (a:=a));unfold imV at*;obtain⟨p0,c0,p1,c1,p2,c2⟩:=P;obtain⟨banks,en,ve,data,rel⟩:=I;clear hI hh;simp only at HR HHo HBS HO HP hn0⊢;have HB:=Nc (((Below.refl _ w).alloc (Nat.le_refl _) (.cells #[.slice p0 banks.length c0,.int .u16 en,.int .u16 ve,.slice p1 data.length c1,.slice p2 rel.length c2] 33)).alloc (by simp) (.cells #[.int .i64 b,.int .u16 a] 77));have HX1:=Nc (aj _ (.cells #[.int .i64 b,.int .u16 a] 77) _ (heap_alloc_new w (.cells #[.slice p0 banks.length c0,.int .u16 en,.int .u16 ve,.slice p1 data.length c1,.slice p2 rel.length c2] 33)));have HHs:=Nc (HHo.out.below HB.out);cases hc:gU ⟨banks,en,ve,data,rel⟩ b a with
 | false=>
  rw[hc] at HO HR;rw[if_pos (Or.inl rfl)] at HR;clear hc;go_enter Tryz.func107,Tryz.ntmps107
  go_wp2_with fail
  refine(HO.out _ HHs.out).mono ?_;rintro e w1 ⟨rfl,hb⟩;have HB1:=Nc (HB.out.trans (hb.mono (by simp;omega)));clear hb;go_wp2_with fail
  go_ret
  exact⟨IE (by rw[HR.out]),HB1.out⟩
 | true=>
  by_cases hn:n < 1
  ·rw[hc] at HO HR
   rw[if_pos (Or.inr hn)] at HR;clear hc;go_enter Tryz.func107,Tryz.ntmps107
   go_wp2_with fail
   refine(HO.out _ HHs.out).mono ?_;rintro e w1 ⟨rfl,hb⟩;have HB1:=Nc (HB.out.trans (hb.mono (by simp;omega)));clear hb;go_wp2_with fail
   go_ret
   exact⟨IE (by rw[HR.out]),HB1.out⟩
  ·obtain⟨q0,q1,q2⟩:=HP.out hc
   rw[hc] at HO HR;rw[if_neg (by simp;omega)] at HR;simp only[xx,if_true] at HO;clear hc;obtain⟨k,rfl⟩:=Int.eq_ofNat_of_zero_le q0;have hk:k < banks.length:=by omega
   have hk0:(0:Int)≤(k:Int):=by omega
   have hk1:(k:Int) < (banks.length:Int):=by omega
   obtain⟨g,hp,es⟩:=HHo.out.s0.aF (jQ hk);simp only at hp;subst hp;simp only[Int.toNat_natCast] at HR q2;have hsz:=HBS.out _ (ji hk);obtain⟨s,hs⟩:∃ s,bk banks k=s:=⟨_,rfl⟩;rw[hs] at es HR q2 hsz;clear hs hk q0 q1;obtain⟨m,hmm⟩:∃ m:Nat,a%4096=m:=Int.eq_ofNat_of_zero_le (by omega);rw[hmm] at HO HR q2;rw[show((m:Int)).toNat=m from rfl] at HR;have hm4:m < 4096:=by omega
   clear hmm;have HT:=Nc (fun j=>rG s m j (by omega));have HSz:=Nc (show(s.extract m s.size).size=s.size-m by rw[ByteArray.size_extract];omega);have hsz2:s.size≤9223372036854775807:=by unfold maxLen at hsz;omega
   clear hsz;have q3:m < s.size:=by omega
   have q4:(m:Int)≤(s.size:Int):=by omega
   go_enter Tryz.func107,Tryz.ntmps107
   go_wp2_with fail
   refine(HO.out _ HHs.out).mono ?_;rintro e w1 ⟨rfl,hb⟩;have HB1:=Nc (HB.out.trans (hb.mono (by simp;omega)));have y1:=af HX1.out hb;have es2:=jA (bZ (bZ es (.cells #[.slice (some ⟨g,0,none⟩) banks.length c0,.int .u16 en,.int .u16 ve,.slice p1 data.length c1,.slice p2 rel.length c2] 33)) (.cells #[.int .i64 (k:Int),.int .u16 a] 77)) hb;have f0:=ae y1 0 _ rfl;clear hb y1 es;go_wp2_with fail
   all_goals
    go_ret
    refine⟨IE ?_,HB1.out⟩;rw[HR.out,HT.out];unfold cdS
    congr 1
    omega
def nxB(b a n:Int):Bool:=(part b a != 0) && decide (jg (part b a)≤a+n) && decide (a+n < ry (part b a))
theorem jo(b a:Int)(a0:0≤a):(part b a != 0)=true→0≤jg (part b a)∧jg (part b a)≤a∧a < ry (part b a)∧ry (part b a)≤8192∧jg (part b a)=4096*(a/4096)∧ry (part b a)=4096*(a/4096)+4096:=by
 intro h;unfold part at h⊢;by_cases h1:b=0∧a < 4096
 ·rw[if_pos h1]
  simp only[jg,ry];refine⟨by decide,?_,?_,?_,?_,?_⟩<;>simp<;>omega
 ·rw[if_neg h1] at h⊢
  by_cases h2:0≤b∧b < 64∧4096≤a∧a < 8192
  ·rw[if_pos h2]
   simp only[jg,ry];refine⟨by decide,?_,?_,?_,?_,?_⟩<;>simp<;>omega
  ·rw[if_neg h2] at h;simp at h
def nxV(B:Bool)(b x:Int):Value:= .tuple #[.agg #[.int .i64 (if B=true then b else 0),.int .u16 (if B=true then x else 0)],.bool B]
theorem qw(b a n:Int):nxB b a n=((part b a != 0) && decide (jg (part b a)≤a+n) && decide (a+n < ry (part b a))):=rfl
theorem JB(w:World)(b a:Int):∀ W:World,W=(w.alloc (.cells #[.int .i64 b,.int .u16 a] 77)).alloc (.cells #[.int .i64 0,.int .u16 0] 77)→W.heap[w.heap.size+1]? =some (.cells #[.int .i64 0,.int .u16 0] 77 (0,0))∧W.heap[w.heap.size]? =some (.cells #[.int .i64 b,.int .u16 a] 77 (0,0))∧Below w.heap.size w W:=by
 rintro W rfl;have h2:=heap_alloc_new (w.alloc (.cells #[.int .i64 b,.int .u16 a] 77)) (.cells #[.int .i64 0,.int .u16 0] 77);simp only[World.size_alloc] at h2;exact⟨h2,aj _ _ _ (heap_alloc_new w _),((Below.refl _ w).alloc (Nat.le_refl _) _).alloc (by simp) _⟩
set_option maxHeartbeats 2000000 in
theorem next_any(b a n:Int)(w:World)(a0:0≤a)(a1:a < 65536)(n0:yY≤n)(n1:n≤yZ):
  Calls Tryz.prog 133 #[.agg #[.int .i64 b,.int .u16 a],.int .i64 n] w fun e w'=>e= .returned (nxV (nxB b a n) b (a+n))∧Below w.heap.size w w':=by
 have HR:=Nc (qw b a n);have HN:=Nc (And.intro n0 n1);clear n0 n1;have HP:=Nc (fun W=>ql b a W a0 a1);have HC:=Nc (jo b a a0);obtain⟨k,hk⟩:∃ k,part b a=k:=⟨_,rfl⟩;rw[hk] at HR HP HC;clear hk;have HW:=Nc (JB w b a);go_enter Tryz.func133,Tryz.ntmps133
 go_wp2_with fail
 refine(HP.out _).mono ?_;rintro e w1 ⟨rfl,hb⟩;obtain⟨x1,x2,x3⟩:=HW.out _ rfl;have y1:=af x1 hb;have y2:=af x2 hb;have HB1:=Nc (x3.trans (hb.mono (by simp;omega)));clear hb x1 x2 x3;have e0:w1.cell? ⟨w.heap.size,0,none⟩=some (.int .i64 b):=ae y2 _ _ rfl;have e1:w1.cell? ⟨w.heap.size,1,none⟩=some (.int .u16 a):=ae y2 _ _ rfl;have r0:w1.cell? ⟨w.heap.size+1,0,none⟩=some (.int .i64 0):=ae y1 _ _ rfl;have r1:w1.cell? ⟨w.heap.size+1,1,none⟩=some (.int .u16 0):=ae y1 _ _ rfl;have rf:=fun j=>frozen_of_row w1 (w.heap.size+1) j _ _ y1
 clear y1 y2;have HB2:=Nc (fun u v=>(HB1.out.setCell (p:=⟨w.heap.size+1,0,none⟩) (by simp) u).setCell (p:=⟨w.heap.size+1,1,none⟩) (by simp) v);cases hc:(k != 0) with
 | false=>
  rw[hc] at HR;simp only[Bool.false_and] at HR;clear hc;go_wp2_with fail
  exact bodyPost_ret (v:= .tuple #[.agg #[.int .i64 (0),.int .u16 (0)],.bool false]) (by simp[results,Tryz.results133,go_sem, *]) rfl ⟨by rw[HR.out];simp[nxV],HB2.out _ _⟩
 | true=>
  rw[hc] at HR;simp only[Bool.true_and] at HR;have hl:=HC.out hc;clear hc;obtain⟨pf,hpf⟩:∃ x,jg k=x:=⟨_,rfl⟩;obtain⟨pe,hpe⟩:∃ x,ry k=x:=⟨_,rfl⟩;rw[hpf,hpe] at HR hl⊢;clear hpf hpe;obtain⟨l0,l1,l2,l3,l4,l5⟩:=hl;have HL45:=Nc (And.intro l4 l5);clear l4 l5;have w1':IntKind.i64.wrap (pf-a)=pf-a:=IntWalk.i64_in _ (by omega);have w2':IntKind.i64.wrap (pe-a)=pe-a:=IntWalk.i64_in _ (by omega);by_cases c1:n < pf-a
  ·rw[show decide (pf≤a+n)=false by simp;omega] at HR
   simp only[Bool.false_and] at HR;go_wp2_with fail
   exact bodyPost_ret (v:= .tuple #[.agg #[.int .i64 (0),.int .u16 (0)],.bool false]) (by simp[results,Tryz.results133,go_sem, *]) rfl ⟨by rw[HR.out];simp[nxV],HB2.out _ _⟩
  by_cases c2:pe-a≤n
  ·rw[show decide (a+n < pe)=false by simp;omega] at HR
   simp only[Bool.and_false] at HR;go_wp2_with fail
   exact bodyPost_ret (v:= .tuple #[.agg #[.int .i64 (0),.int .u16 (0)],.bool false]) (by simp[results,Tryz.results133,go_sem, *]) rfl ⟨by rw[HR.out];simp[nxV],HB2.out _ _⟩
  rw[show decide (pf≤a+n)=true by simp;omega,show decide (a+n < pe)=true by simp;omega] at HR;simp only[Bool.and_self] at HR;have w3:IntKind.i64.wrap (a+n)=a+n:=IntWalk.i64_in _ (by omega);have w4:IntKind.u16.wrap (a+n)=a+n:=u16_in _ (by omega) (by omega);go_wp2_with fail
  exact bodyPost_ret (v:= .tuple #[.agg #[.int .i64 (b),.int .u16 (a+n)],.bool true]) (by simp[results,Tryz.results133,go_sem, *]) rfl ⟨by rw[HR.out];simp[nxV],HB2.out _ _⟩
def zB(f:Int):Bool:=(f%2==1)
def nB(f:Int):Bool:=(f/2%2==1)
def cB(f:Int):Bool:=(f/4%2==1)
def vB(f:Int):Bool:=(f/8%2==1)
def dZ(cc f:Int):Bool:=
 if cc=0 then zB f else if cc=1 then !zB f else if cc=2 then cB f else if cc=3 then !cB f else if cc=4 then nB f else if cc=5 then !nB f else
 if cc=6 then vB f else if cc=7 then !vB f else if cc=8 then cB f && !zB f else if cc=9 then !cB f || zB f else if cc=10 then nB f==vB f else
 if cc=11 then nB f != vB f else if cc=12 then !zB f && nB f==vB f else if cc=13 then zB f || nB f != vB f else false
theorem and1(f:Int)(h0:0≤f)(h1:f < 65536):(bits .and .u16 f 1 != 0)=zB f:=by
 rw[u16_and f 1 h0 h1 (by omega) (by omega)];have e:f.toNat &&& 1=f.toNat%2:=nat_mask1 _;simp only[Int.reduceToNat,e,zB];rw[Bool.eq_iff_iff,bne_iff_ne,beq_iff_eq];omega
theorem Jw(f:Int)(h0:0≤f)(h1:f < 65536):(bits .and .u16 f 2 != 0)=nB f:=by
 rw[u16_and f 2 h0 h1 (by omega) (by omega)];simp only[Int.reduceToNat,nat_bit1,nB];rw[Bool.eq_iff_iff,bne_iff_ne,beq_iff_eq];omega
theorem Eu(f:Int)(h0:0≤f)(h1:f < 65536):(bits .and .u16 f 4 != 0)=cB f:=by
 rw[u16_and f 4 h0 h1 (by omega) (by omega)];simp only[Int.reduceToNat,nat_bit2,cB];rw[Bool.eq_iff_iff,bne_iff_ne,beq_iff_eq];omega
theorem Ju(f:Int)(h0:0≤f)(h1:f < 65536):(bits .and .u16 f 8 != 0)=vB f:=by
 rw[u16_and f 8 h0 h1 (by omega) (by omega)];simp only[Int.reduceToNat,nat_bit3,vB];rw[Bool.eq_iff_iff,bne_iff_ne,beq_iff_eq];omega
theorem jm{a b:Bool}(h:a=b):Ending.returned (.bool a)= .returned (.bool b):=by rw[h]
theorem mV(cc f:Int)(w:World)(h0:0≤f)(h1:f < 65536)(hc:cc=0∨cc=2∨cc=4∨cc=6∨cc=10):
  Calls Tryz.prog 165 #[.int .i64 cc,.int .u16 f] w fun e w'=>e= .returned (.bool (dZ cc f))∧w=w':=by
 have e1:=and1 f h0 h1;have e2:=Jw f h0 h1;have e4:=Eu f h0 h1;have e8:=Ju f h0 h1;rcases hc with rfl|rfl|rfl|rfl|rfl;all_goals
  go_enter Tryz.func165,Tryz.ntmps165
  go_wp2
  go_ret
  exact⟨jm (by simp[dZ]),rfl⟩
theorem Jg(f:Int)(w:World)(h0:0≤f)(h1:f < 65536):
  Calls Tryz.prog 165 #[.int .i64 8,.int .u16 f] w fun e w'=>e= .returned (.bool (dZ 8 f))∧w=w':=by
 have e1:=and1 f h0 h1;have e2:=Jw f h0 h1;have e4:=Eu f h0 h1;have e8:=Ju f h0 h1;rcases Bool.eq_false_or_eq_true (cB f) with hb|hb;all_goals
  rw[hb] at e4;have Hb:=Nc hb;clear hb;go_enter Tryz.func165,Tryz.ntmps165
  go_wp2
  go_ret
  exact⟨jm (by simp[dZ,Hb.out]),rfl⟩
theorem Gx(f:Int)(w:World)(h0:0≤f)(h1:f < 65536):
  Calls Tryz.prog 165 #[.int .i64 12,.int .u16 f] w fun e w'=>e= .returned (.bool (dZ 12 f))∧w=w':=by
 have e1:=and1 f h0 h1;have e2:=Jw f h0 h1;have e4:=Eu f h0 h1;have e8:=Ju f h0 h1;rcases Bool.eq_false_or_eq_true (zB f) with hb|hb;all_goals
  rw[hb] at e1;have Hb:=Nc hb;clear hb;go_enter Tryz.func165,Tryz.ntmps165
  go_wp2
  go_ret
  exact⟨jm (by simp[dZ,Hb.out]),rfl⟩
theorem wJ(cc f:Int)(w:World)(h0:0≤f)(h1:f < 65536)(hc:cc=0∨cc=2∨cc=4∨cc=6∨cc=8∨cc=10∨cc=12):
  Calls Tryz.prog 165 #[.int .i64 cc,.int .u16 f] w fun e w'=>e= .returned (.bool (dZ cc f))∧w=w':=by
 rcases hc with rfl|rfl|rfl|rfl|rfl|rfl|rfl
 ·exact mV _ f w h0 h1 (by simp)
 ·exact mV _ f w h0 h1 (by simp)
 ·exact mV _ f w h0 h1 (by simp)
 ·exact mV _ f w h0 h1 (by simp)
 ·exact Jg f w h0 h1
 ·exact mV _ f w h0 h1 (by simp)
 ·exact Gx f w h0 h1
theorem qG(cc:Int)(w:World)(h0:0≤cc)(h1:cc < 14):
  Calls Tryz.prog 164 #[.int .i64 cc] w fun e w'=>e= .returned (.bool true)∧w=w':=by
 go_enter Tryz.func164,Tryz.ntmps164
 go_wp2
 go_ret
 exact⟨rfl,rfl⟩
theorem Ac(cc:Int)(w:World)(h:cc < 0∨(0≤cc∧14≤cc)):
  Calls Tryz.prog 164 #[.int .i64 cc] w fun e w'=>e= .returned (.bool false)∧w=w':=by
 rcases h with h|⟨h,h'⟩
 ·go_enter Tryz.func164,Tryz.ntmps164
  go_wp2
  go_ret
  exact⟨rfl,rfl⟩
 ·go_enter Tryz.func164,Tryz.ntmps164
  go_wp2
  go_ret
  exact⟨jm (by simp;omega),rfl⟩
theorem Ak(k f:Int)(h:k=0∨k=2∨k=4∨k=6∨k=8∨k=10∨k=12):dZ (k+1) f= !dZ k f:=by
 rcases h with rfl|rfl|rfl|rfl|rfl|rfl|rfl<;>simp[dZ]<;>cases nB f<;>cases vB f<;>simp
theorem sU(cc f:Int)(h:cc < 0∨14≤cc):dZ cc f=false:=by
 simp only[dZ];repeat rw[if_neg (by omega)]
theorem Eg(cc:Int)(c0:0≤cc)(c1:cc < 14):(cc=0∨cc=2∨cc=4∨cc=6∨cc=8∨cc=10∨cc=12)∨∃ k,(k=0∨k=2∨k=4∨k=6∨k=8∨k=10∨k=12)∧cc=k+1:=by
 rcases(show cc%2=0∨cc%2=1 by omega) with h|h
 ·exact .inl (by omega)
 ·exact .inr ⟨cc-1,by omega,by omega⟩
theorem Ea(cc f:Int)(w:World)(h0:0≤f)(h1:f < 65536):
  Calls Tryz.prog 155 #[.int .i64 cc,.int .u16 f] w fun e w'=>e= .returned (.bool (dZ cc f))∧w=w':=by
 by_cases hin:0≤cc∧cc < 14
 ·obtain⟨c0,c1⟩:=hin
  rcases Eg cc c0 c1 with hk|⟨k,hk,rfl⟩
  ·have e1:cc.tmod 2=0:=by rw[Int.tmod_eq_emod_of_nonneg c0];omega
   have Hk:=Nc hk;clear hk;go_enter Tryz.func155,Tryz.ntmps155
   go_wp2_with fail
   refine(qG _ _ c0 c1).mono ?_;rintro e w' ⟨rfl,rfl⟩;go_wp2_with fail
   refine(wJ _ _ _ h0 h1 ?_).mono ?_
   ·simpa using Hk.out
   rintro e w' ⟨rfl,rfl⟩;go_wp2_with fail
   go_ret
   exact⟨jm (by simp),rfl⟩
  ·have e1:(k+1).tmod 2=1:=by rw[Int.tmod_eq_emod_of_nonneg c0];omega
   have Hk:=Nc hk;clear hk;go_enter Tryz.func155,Tryz.ntmps155
   go_wp2_with fail
   refine(qG _ _ c0 c1).mono ?_;rintro e w' ⟨rfl,rfl⟩;go_wp2_with fail
   refine(wJ _ _ _ h0 h1 ?_).mono ?_
   ·simpa using Hk.out
   rintro e w' ⟨rfl,rfl⟩;go_wp2_with fail
   go_ret
   exact⟨jm (by rw[Ak k f Hk.out]),rfl⟩
 ·go_enter Tryz.func155,Tryz.ntmps155
  go_wp2_with fail
  refine(Ac _ _ (by omega)).mono ?_;rintro e w' ⟨rfl,rfl⟩;go_wp2_with fail
  go_ret
  exact⟨jm (sU cc f (by omega)).symm,rfl⟩
open Go.Maps
section
variable {H:Type} {P:Program}
theorem aP(w:World){ops:Array Oper}{rest:List Oper}{a:Act}{Q:Exit→Act→World→Prop}{dst:Option Nat}{ty:TypeId}{pos:String}{aft:Array Edge}
  {m x v:Operand} {t:TypeId} (k e:TypeId) (K:Keyed P k) (ht:P.underlying t=some (.map k e)) (R:Value→Option (DataW H × List MemPlace)) (b n:Nat) (D:DataW H)
  (key val:Value) (kl:Lit) (d:DataW H) (ps:List MemPlace) (hown:w.ownsMap P k R b n D) (hn:n < maxLen) (hkey:keyOf P k key=some kl) (hval:R val=some (d,ps))
  (hm:a.eval m= .map (some b)) (hx:a.eval x=key) (hv:a.eval v=val)
  (hK:∀ w',w'.ownsMap P k R b (n+1) (D.put kl d)→w.grownBy w' (some b)→wpList P ops Q rest (a.put dst undef) w'):
  wpList P ops Q ({dst:=dst,op:=Op.insert t m x v,type:=ty,pos:=pos,after:=aft,guard:=none}::rest) a w:=by
 refine wpList_plain rfl fun K' hK'=>?_
 obtain⟨w',hrun,r1,r2⟩:=hown.update K ht hn hkey hval;unfold Oper.wp;simp[execOp,hm,hx,hv,hrun,Result.andThen];exact hK' _ _ (hK w' r1 r2)
end
def bM(v:Value):Option (DataW Value × List MemPlace):=some (.held v,[])
theorem law3:Keyed Tryz.prog 3:=int_keyed Tryz.underlying3
theorem Ib(w:World):(zeroValue 134).run Tryz.prog w= .ok (.nilFunc) w:=by kernel_rfl
def shV(kind a n:Int):Int:=if kind=0 then a*2 ^ n.toNat%65536 else if kind=1 then a/2 ^ n.toNat else if kind=2 then(sgn a/2 ^ n.toNat)%65536 else 0
theorem sh1(a n:Int)(b:Nat)(w:World)(n0:0≤n)(n1:n < 16)(hc:w.cell? ⟨b,0,none⟩=some (.int .u16 a)):
  Calls Tryz.prog 130 #[.int .u16 n,.pointer (some ⟨b,0,none⟩)] w fun e w'=>e= .returned (.int .u16 (shV 0 a n))∧w=w':=by
 have hw:=IntKind.wrap_u16 (a*2 ^ n.toNat);have Hw:=Nc hw;clear hw;go_enter Tryz.func130,Tryz.ntmps130
 go_wp2_with fail
 go_ret
 exact⟨eX (by rw[Hw.out];rfl),rfl⟩
theorem sh2(a n:Int)(b:Nat)(w:World)(n0:0≤n)(n1:n < 16)(hc:w.cell? ⟨b,0,none⟩=some (.int .u16 a)):
  Calls Tryz.prog 131 #[.int .u16 n,.pointer (some ⟨b,0,none⟩)] w fun e w'=>e= .returned (.int .u16 (shV 1 a n))∧w=w':=by
 go_enter Tryz.func131,Tryz.ntmps131
 go_wp2_with fail
 go_ret
 exact⟨rfl,rfl⟩
theorem sh3(a n:Int)(b:Nat)(w:World)(a0:0≤a)(a1:a < 65536)(n0:0≤n)(n1:n < 16)(hc:w.cell? ⟨b,0,none⟩=some (.int .u16 a)):
  Calls Tryz.prog 132 #[.int .u16 n,.pointer (some ⟨b,0,none⟩)] w fun e w'=>e= .returned (.int .u16 (shV 2 a n))∧w=w':=by
 have hs:=ed a a0 a1;have Hw:=Nc (IntKind.wrap_u16 (sgn a/2 ^ n.toNat));go_enter Tryz.func132,Tryz.ntmps132
 go_wp2_with fail
 go_ret
 exact⟨eX (by rw[Hw.out];rfl),rfl⟩
def fnV(k:Nat)(W:Nat):Value:= .func (.func k) #[] #[.pointer (some ⟨W,0,none⟩)]
def Kr(W:Nat):DataW Value:=(DataW.map []).put (.int .i64 0) (.held (fnV 130 W))
def LQ(W:Nat):DataW Value:=(Kr W).put (.int .i64 1) (.held (fnV 131 W))
def vX(W:Nat):DataW Value:=(((DataW.map []).put (.int .i64 0) (.held (fnV 130 W))).put (.int .i64 1) (.held (fnV 131 W))).put (.int .i64 2) (.held (fnV 132 W))
theorem yT(W:Nat):vX W= .map [(.int .i64 0,.held (fnV 130 W)),(.int .i64 1,.held (fnV 131 W)),(.int .i64 2,.held (fnV 132 W))]:=rfl
theorem Js{W:Nat}{kind:Int}{v:Value}{ps:List MemPlace}(hv:bM v=some ((vX W).atKey (.int .i64 kind) (.held .nilFunc),ps)):
  v=(if kind=0 then fnV 130 W else if kind=1 then fnV 131 W else if kind=2 then fnV 132 W else .nilFunc):=by
 simp only[bM,Option.some.injEq,Prod.mk.injEq] at hv;obtain⟨hv,-⟩:=hv;rw[yT] at hv;by_cases h0:kind=0
 ·subst h0
  rw[if_pos rfl];exact DataW.held.inj hv
 rw[if_neg h0];by_cases h1:kind=1
 ·subst h1
  rw[if_pos rfl];exact DataW.held.inj hv
 rw[if_neg h1];by_cases h2:kind=2
 ·subst h2
  rw[if_pos rfl];exact DataW.held.inj hv
 rw[if_neg h2];have e0:(Lit.int .i64 0).sameKey (.int .i64 kind)=false:=by simp[Lit.sameKey];omega
 have e1:(Lit.int .i64 1).sameKey (.int .i64 kind)=false:=by simp[Lit.sameKey];omega
 have e2:(Lit.int .i64 2).sameKey (.int .i64 kind)=false:=by simp[Lit.sameKey];omega
 simp only[DataW.atKey,List.find?_cons,List.find?_nil,e0,e1,e2] at hv;exact DataW.held.inj hv
theorem Gl(W:Nat)(kind:Int):Maps.has (vX W) (.int .i64 kind)=decide (0≤kind∧kind≤2):=by
 rw[yT];simp[Maps.has,Lit.sameKey];rw[Bool.eq_iff_iff];simp;omega
theorem nG(kind a n:Int)(w:World)(wk:(Lit.int .i64 kind).wf=true)(a0:0≤a)(a1:a < 65536)(n0:0≤n)(n1:n < 65536):
  Calls Tryz.prog 99 #[.int .i64 kind,.int .u16 a,.int .u16 n] w fun e w'=>e= .returned (.int .u16 (shV kind a (n%16)))∧Below w.heap.size w w':=by
 have hmm:=@run_makeMap Tryz.prog;have hm:=bu n 16 n0;go_enter Tryz.func99,Tryz.ntmps99
 go_wp2_with (with_reducible refine aP (H:=Value) _ 3 134 law3 Tryz.underlying155 bM (w.heap.size+1) 0 (.map []) (.int .i64 0) (fnV 130 w.heap.size) (.int .i64 0) (.held (fnV 130 w.heap.size)) [] ?o0 ?n0 ?h0 ?r0 ?m0 ?x0 ?v0 ?_)
 case o0=>simpa using World.ownsMap_made (w.alloc (.cells #[.int .u16 a] 29)) Tryz.prog 3 bM
 case n0=>unfold maxLen;omega
 case h0=>exact keyOf_int_mk Tryz.underlying3 (by decide)
 case r0=>rfl
 case m0=>rfl
 case x0=>rfl
 case v0=>rfl
 intro w1 hown1 hg1;go_wp2_with (with_reducible refine aP (H:=Value) _ 3 134 law3 Tryz.underlying155 bM (w.heap.size+1) 1 (Kr w.heap.size) (.int .i64 1) (fnV 131 w.heap.size) (.int .i64 1) (.held (fnV 131 w.heap.size)) [] ?o1 ?n1 ?h1 ?r1 ?m1 ?x1 ?v1 ?_)
 case o1=>exact hown1
 case n1=>unfold maxLen;omega
 case h1=>exact keyOf_int_mk Tryz.underlying3 (by decide)
 case r1=>rfl
 case m1=>rfl
 case x1=>rfl
 case v1=>rfl
 intro w2 hown2 hg2;go_wp2_with (with_reducible refine aP (H:=Value) _ 3 134 law3 Tryz.underlying155 bM (w.heap.size+1) 2 (LQ w.heap.size) (.int .i64 2) (fnV 132 w.heap.size) (.int .i64 2) (.held (fnV 132 w.heap.size)) [] ?o2 ?n2 ?h2 ?r2 ?m2 ?x2 ?v2 ?_)
 case o2=>exact hown2
 case n2=>unfold maxLen;omega
 case h2=>exact keyOf_int_mk Tryz.underlying3 (by decide)
 case r2=>rfl
 case m2=>rfl
 case x2=>rfl
 case v2=>rfl
 intro w3 hown3 hg3;have hown:w3.ownsMap Tryz.prog 3 bM (w.heap.size+1) 3 (vX w.heap.size):=hown3;clear hown3 hown1 hown2;have hb:Below w.heap.size w w3:=((((Below.refl _ w).alloc (Nat.le_refl _) (.cells #[.int .u16 a] 29)).alloc (by simp) (.map #[] 0)).grown hg1 (by simp;omega) (by simp)).grown hg2 (by have:=hg1.size;simp at this;omega) (by simp) |>.grown hg3 (by have:=hg1.size;have:=hg2.size;simp at*;omega) (by simp);have hc3:w3.cell? ⟨w.heap.size,0,none⟩=some (.int .u16 a):=hg3.cell (hg2.cell (hg1.cell (by simp) (by simp)) (by simp)) (by simp);clear hg1 hg2 hg3;go_wp2_with (at_lookup;refine wpList_lookup_own_ok _ rfl (.tmp 16) (.tmp 17) 155 rfl 3 134 law3 Tryz.underlying155 bM (Ib _) (.held .nilFunc) [] rfl (w.heap.size+1) 3 _ rfl hown (.int .i64 kind) (.int .i64 kind) rfl (keyOf_int_mk Tryz.underlying3 wk) ?_)
 intro v ps hv;have hat:=Js hv;have hhas:=Gl w.heap.size kind;have Hb:=Nc hb;have hz:w.heap.size < w3.heap.size:=by have:=hb.size;have:=hown.lt;omega
 clear hv hown hb;by_cases k0:kind=0
 ·have hat':v=fnV 130 w.heap.size:=by rw[hat,if_pos k0]
  have hh:Maps.has (vX w.heap.size) (Lit.int .i64 kind)=true:=by rw[hhas];simp;omega
  clear hat hhas;subst hat';have K0:=Nc k0;clear k0;unfold fnV;go_wp2_with fail
  refine(sh1 a (n%16) _ _ (by omega) (by omega) hc3).mono ?_;rintro e w' ⟨rfl,rfl⟩;go_wp2_with fail
  go_ret
  exact⟨eX (by rw[K0.out]),Hb.out⟩
 by_cases k1:kind=1
 ·have hat':v=fnV 131 w.heap.size:=by rw[hat,if_neg k0,if_pos k1]
  have hh:Maps.has (vX w.heap.size) (Lit.int .i64 kind)=true:=by rw[hhas];simp;omega
  clear hat hhas;subst hat';have K1:=Nc k1;clear k1;unfold fnV;go_wp2_with fail
  refine(sh2 a (n%16) _ _ (by omega) (by omega) hc3).mono ?_;rintro e w' ⟨rfl,rfl⟩;go_wp2_with fail
  go_ret
  exact⟨eX (by rw[K1.out]),Hb.out⟩
 by_cases k2:kind=2
 ·have hat':v=fnV 132 w.heap.size:=by rw[hat,if_neg k0,if_neg k1,if_pos k2]
  have hh:Maps.has (vX w.heap.size) (Lit.int .i64 kind)=true:=by rw[hhas];simp;omega
  clear hat hhas;subst hat';have K2:=Nc k2;clear k2;unfold fnV;go_wp2_with fail
  refine(sh3 a (n%16) _ _ a0 a1 (by omega) (by omega) hc3).mono ?_;rintro e w' ⟨rfl,rfl⟩;go_wp2_with fail
  go_ret
  exact⟨eX (by rw[K2.out]),Hb.out⟩
 have hat':v= .nilFunc:=by rw[hat,if_neg k0,if_neg k1,if_neg k2]
 have hh:Maps.has (vX w.heap.size) (Lit.int .i64 kind)=false:=by rw[hhas];simp;omega
 have hs:Hid (shV kind a (n%16)=0):=Nc (by unfold shV;rw[if_neg k0,if_neg k1,if_neg k2]);clear hat hhas k0 k1 k2;subst hat';go_wp2_with fail
 go_ret
 exact⟨eX hs.out.symm,Hb.out⟩
theorem CJ(k:Nat):(0:Int) < 2 ^ k:=Int.pow_pos (by omega)
theorem mW(x:Int)(k:Nat):x/2 ^ (k+1)=x/2 ^ k/2:=by
 rw[Int.pow_succ,Int.ediv_ediv,if_neg (by have:=CJ k;omega)];omega
theorem D5(a:Int)(a0:0≤a)(a1:a < 65536)(k:Nat):0≤a/2 ^ k∧a/2 ^ k < 65536:=by
 induction k with
 | zero=>simp only[Int.pow_zero];omega
 | succ k ih=>rw[mW];omega
theorem lw(kind a n:Int)(a0:0≤a)(a1:a < 65536):0≤shV kind a n∧shV kind a n < 65536:=by
 unfold shV;have:=D5 a a0 a1 n.toNat
 split
 ·omega
 split
 ·exact this
 split<;>omega
end Go.Proofs.YthkcloapiefggaaGreatDoor
