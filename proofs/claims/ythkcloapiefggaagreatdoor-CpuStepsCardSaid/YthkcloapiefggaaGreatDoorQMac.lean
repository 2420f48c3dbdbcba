import Derived.Test.YthkcloapiefggaaGreatDoorQAgr
import Derived.Test.YthkcloapiefggaaGreatDoorQIsa
import Derived.Test.YthkcloapiefggaaGreatDoorQBas
import Derived.Defers
import Derived.Recover
import Derived.Laws.Pointers
import Derived.Deep.DeepCutAuto
import Derived.Deep.RegionHeld3
import Derived.Laws.CopyRow
import Derived.Laws.IdiomCopy
namespace Go.Proofs.YthkcloapiefggaaGreatDoor
set_option linter.unusedVariables false
set_option linter.unusedSimpArgs false
set_option maxRecDepth 100000
open Go.ChangeShapes Go.WideShapes Go.RowKit
structure Ms where
 r:Nat→Int
 pc:Int
 sp:Nat
 fp:Int
 f:Int
 aF:Int
 steps:Int
 inp:Int
 pol:Int
 ram:Nat→Int
 stk:Nat→Int
 out:List (Int × Int)
structure Tp where
 inn:List Int
 irq:List Int
def upd(f:Nat→Int)(k:Nat)(v:Int):Nat→Int:=fun j=>if j=k then v else f j
def U16(x:Int):Prop:=0≤x∧x < 65536
def I64(x:Int):Prop:= -9223372036854775808≤x∧x≤9223372036854775807
structure Ms.Ok(S:Ms):Prop where
 r:∀ k,k < 8→U16 (S.r k)
 pc:U16 S.pc
 sp:S.sp≤4096
 fp:U16 S.fp
 f:U16 S.f
 aF:I64 S.aF
 steps:I64 S.steps
 inp:I64 S.inp
 pol:I64 S.pol
 ram:∀ j,j < 8192→0≤S.ram j∧S.ram j < 256
 stk:∀ j,j < 4096→U16 (S.stk j)
 out:∀ e∈S.out,U16 e.1∧U16 e.2
structure Tp.Ok(T:Tp):Prop where
 inn:∀ x∈T.inn,U16 x
 irq:∀ x∈T.irq,0≤x∧x < 256
 n0:T.inn.length≤1000000000
 n1:T.irq.length≤1000000000
inductive Rs where
 | ok (S:Ms)
 | tr (k i:Int)
inductive Vl where
 | ok (v:Int)
 | tr (k i:Int)
def Vl.to(v:Vl)(f:Int→Ms):Rs:=match v with | .ok x=> .ok (f x) | .tr k i=> .tr k i
def aZ(S:Ms)(d v:Int):Ms:={S with r:=upd S.r d.toNat v}
def plB(S:Ms)(a:Int):Int:=if a < 4096 then 0 else S.aF
def cbB(I:Im)(S:Ms)(a:Int):Bool:=gU I (plB S a) a
def cbV(I:Im)(S:Ms)(a:Int):Int:=ba (bk I.banks (plB S a).toNat) (a%4096).toNat
def mG(I:Im)(S:Ms)(k:Nat):Bool:=nxB (plB S S.pc) S.pc k && gU I (plB S S.pc) (S.pc+k)
def zi(I:Im)(S:Ms)(n:Nat):Option Nat:=(List.range n).find? fun k=> !mG I S k
inductive Ft where
 | ok (i:Ins)
 | tr (k i:Int)
def dI(I:Im)(S:Ms):Ft:=
 if S.pc=65535 then .tr 6 0
 else if mG I S 0=false then .tr 2 S.pc
 else if (row (cbV I S S.pc)).z=0 then .tr 3 0
 else match zi I S (row (cbV I S S.pc)).z.toNat with
  | some k=> .tr 2 (S.pc+k)
  | none=>if fE (cdV I (plB S S.pc) S.pc (row (cbV I S S.pc)).z)=0 then .ok (fD (cdV I (plB S S.pc) S.pc (row (cbV I S S.pc)).z)) else .tr 3 0
def nx(a:Int):Int:=(a+1)%65536
def wdP(ok:Int→Bool)(val:Int→Int)(a:Int):Vl:=if ok a=true then(if ok (nx a)=true then .ok (val a+256*val (nx a)) else .tr 2 (nx a)) else .tr 2 a
def byP(ok:Int→Bool)(val:Int→Int)(a:Int):Vl:=if ok a=true then .ok (val a) else .tr 2 a
def bQ(a:Int):Bool:=decide (16384≤a) && decide (a < 24576)
def eY(S:Ms)(a:Int):Int:=S.ram (a-16384).toNat
def eu(I:Im)(b a:Int):Bool:=decide (a < 4096) && decide (b < I.banks.length) && decide (a < (bk I.banks b.toNat).size)
def fO(I:Im)(b a:Int):Int:=ba (bk I.banks b.toNat) a.toNat
def stB(S:Ms)(a v:Int):Rs:=if bQ a=true then .ok {S with ram:=upd S.ram (a-16384).toNat v} else .tr 2 a
def stW(S:Ms)(a v:Int):Rs:=
 if bQ a=true then(if bQ (nx a)=true then .ok {S with ram:=upd (upd S.ram (a-16384).toNat (v%256)) (nx a-16384).toNat (v/256)} else .tr 2 (nx a)) else .tr 2 a
def psh(S:Ms)(v:Int):Ms:={S with stk:=upd S.stk S.sp v,sp:=S.sp+1}
def zs(S:Ms):Nat→Ms
 | 0=>S
 | k+1=>psh (zs S k) 0
def iG(S:Ms)(n:Int):Rs:=if (S.sp:Int)+1+n≤4096 then .ok (zs {psh S S.fp with fp:=S.sp+1} n.toNat) else .tr 5 0
def iE(S:Ms):Rs:=if 0 < S.fp∧S.fp≤(S.sp:Int) then .ok {S with fp:=S.stk (S.fp.toNat-1),sp:=S.fp.toNat-1} else .tr 5 0
def lu(S:Ms)(n:Int):Rs:=if n≤(S.sp:Int) then .ok {S with sp:=S.sp-n.toNat} else .tr 5 0
def cZ(S:Ms)(n:Int)(f:Ms):Rs:=if 0≤n∧n < (S.sp:Int) then .ok f else .tr 5 0
def bJ(S:Ms):Ms:=psh (psh S (S.aF%65536)) S.pc
def room(S:Ms)(n:Nat)(f:Ms):Rs:=if S.sp+n≤4096 then .ok f else .tr 5 0
def gq(S:Ms)(b a:Int):Ms:={S with pc:=a,aF:=if 4096≤a∧a < 8192 then b%64 else S.aF}
def oN(S:Ms):Rs:=if 2≤S.sp then .ok {S with pc:=S.stk (S.sp-1),aF:=S.stk (S.sp-2)%64,sp:=S.sp-2} else .tr 5 0
def jP(S:Ms):Rs:=
 if 12≤S.sp then .ok {S with r:=fun k=>if k < 8 then S.stk (S.sp-8+k) else S.r k,fp:=S.stk (S.sp-9),f:=S.stk (S.sp-10)%16,pc:=S.stk (S.sp-11),aF:=S.stk (S.sp-12)%64,sp:=S.sp-12} else .tr 5 0
def rs8(S X:Ms):Ms:=psh (psh (psh (psh (psh (psh (psh (psh X (S.r 0)) (S.r 1)) (S.r 2)) (S.r 3)) (S.r 4)) (S.r 5)) (S.r 6)) (S.r 7)
def rE(I:Im)(S:Ms):Rs:=room S 12 {rs8 S (psh (psh (bJ S) S.f) S.fp) with pc:=I.ve}
def mg(I:Im)(T:Tp)(S:Ms):Rs:=
 if (T.irq.length:Int)≤max S.pol 0 then .ok S
 else if (T.irq.getD (max S.pol 0).toNat 0)≠0∧I.ve≠0 then rE I {S with pol:=max S.pol 0+1}
 else .ok {S with pol:=max S.pol 0+1}
def inP(T:Tp)(S:Ms)(d p:Int):Ms:=
 if p=0 then aZ S d (S.aF%65536)
 else if (T.inn.length:Int)≤max S.inp 0 then aZ S d 0
 else aZ {S with inp:=max S.inp 0+1} d (T.inn.getD (max S.inp 0).toNat 0)
def oO(S:Ms)(p v:Int):Ms:=if p=0 then {S with aF:=v%64} else {S with out:=S.out++[(p,v)]}
def jmp(S:Ms)(n:Int):Ms:={S with pc:=(S.pc+n)%65536}
def iW(I:Im)(S:Ms)(t n:Int):Rs:=(wdP (cbB I S) (cbV I S) ((t+2*n)%65536)).to fun v=>{S with pc:=v}
def arR(op a b f:Int):Int:=
 if op=32 then b else if op=33 then ou a b false else if op=34 then ou a b (cB f) else if op=35 then oJ a b true else if op=36 then oJ a b (cB f)
 else if op=37 then bits .and .u16 a b else if op=38 then bits .or .u16 a b else if op=39 then bits .xor .u16 a b else if op=40 then a else if op=41 then a
 else if op=42 then a*b%65536 else if op=43 then a/b else if op=44 then shV 0 a (b%16) else if op=45 then shV 1 a (b%16) else if op=46 then shV 2 a (b%16)
 else if op=18 then oJ 0 a true else 65535-a
def arF(op a b f:Int):Int:=
 if op=32 then f else if op=33 then qZ a b false else if op=34 then qZ a b (cB f) else if op=35 then oK a b true else if op=36 then oK a b (cB f)
 else if op=40 then oK a b true else if op=41 then iD f (bits .and .u16 a b) else if op=18 then oK 0 a true else iD f (arR op a b f)
def arP(S:Ms)(op d b:Int):Rs:=
 if op=43∧b=0 then .tr 4 0 else .ok {aZ S d (arR op (S.r d.toNat) b S.f) with f:=arF op (S.r d.toNat) b S.f}
def atP(S:Ms)(i:Ins):Int:=if 84≤i.op∧i.op≤87 then i.im else(S.r i.s.toNat+i.im)%65536
def exP(I:Im)(T:Tp)(i:Ins)(S:Ms):Rs:=
 if i.op=0 then .ok S
 else if i.op=80∨i.op=88∨i.op=84 then(wdP bQ (eY S) (atP S i)).to (aZ S i.d)
 else if i.op=81∨i.op=89∨i.op=85 then(byP bQ (eY S) (atP S i)).to (aZ S i.d)
 else if i.op=82∨i.op=90∨i.op=86 then stW S (atP S i) (S.r i.d.toNat)
 else if i.op=83∨i.op=91∨i.op=87 then stB S (atP S i) (S.r i.d.toNat%256)
 else if i.op=150 then stW S (atP S i) i.ax
 else if i.op=146 then(wdP (eu I i.bk) (fO I i.bk) (atP S i)).to (aZ S i.d)
 else if i.op=147 then(byP (eu I i.bk) (fO I i.bk) (atP S i)).to (aZ S i.d)
 else if i.op=16 then room S 1 (psh S (S.r i.d.toNat))
 else if i.op=17 then(if 0 < S.sp then .ok (aZ {S with sp:=S.sp-1} i.d (S.stk (S.sp-1))) else .tr 5 0)
 else if i.op=20 then iG S i.im
 else if i.op=5 then iE S
 else if i.op=21 then lu S i.im
 else if i.op=160 then cZ S (S.sp-1-i.im) (aZ S i.d (S.stk ((S.sp:Int)-1-i.im).toNat))
 else if i.op=161 then cZ S (S.sp-1-i.im) {S with stk:=upd S.stk ((S.sp:Int)-1-i.im).toNat (S.r i.d.toNat)}
 else if i.op=162 then cZ S (S.fp+sgn i.im) (aZ S i.d (S.stk (S.fp+sgn i.im).toNat))
 else if i.op=163 then cZ S (S.fp+sgn i.im) {S with stk:=upd S.stk (S.fp+sgn i.im).toNat (S.r i.d.toNat)}
 else if i.op=128∨i.op=129 then .ok (jmp S i.im)
 else if i.op=130 then room S 2 (jmp (bJ S) i.im)
 else if i.op=131 then .ok (gq S i.bk i.im)
 else if i.op=132 then room S 2 (gq (bJ S) i.bk i.im)
 else if i.op=1 then oN S
 else if i.op=133 then(if S.r i.d.toNat < i.bk then iW I S i.ax (S.r i.d.toNat) else .ok (jmp S i.im))
 else if i.op=134 then iW I S i.im (S.r i.d.toNat)
 else if i.op=2 then .tr 1 0
 else if i.op=144 then .ok (inP T S i.d i.im)
 else if i.op=145 then .ok (oO S i.im (S.r i.d.toNat))
 else if i.op=4 then mg I T S
 else if i.op=3 then jP S
 else if 96≤i.op then .ok (if dZ (i.op%16) S.f=true then jmp S i.im else S)
 else if 46 < i.op then arP S (32+i.op%16) i.d i.im
 else arP S i.op i.d (S.r i.s.toNat)
def kC(S:Ms)(i:Ins):Ms:={S with steps:=IntKind.i64.wrap (S.steps+1),pc:=(S.pc+i.sz)%65536}
def eQ(I:Im)(T:Tp)(S:Ms):Rs:=match dI I S with | .tr k n=> .tr k n | .ok i=>exP I T i (kC S i)
def eP(I:Im)(T:Tp):Nat→Ms→Ms × Int × Int
 | 0,S=>(S,7,0)
 | n+1,S=>match eQ I T S with | .ok S'=>eP I T n S' | .tr k i=>(S,k,i)
theorem zD(I:Im)(T:Tp)(S:Ms):eP I T 0 S=(S,7,0):=rfl
theorem yx{I:Im}{T:Tp}{S S':Ms}(n:Nat)(h:eQ I T S= .ok S'):eP I T (n+1) S=eP I T n S':=by simp only[eP,h]
theorem yw{I:Im}{T:Tp}{S:Ms}{k i:Int}(n:Nat)(h:eQ I T S= .tr k i):eP I T (n+1) S=(S,k,i):=by simp only[eP,h]
theorem lay:(∀ (a:Act) (d:Tmp) (v:Value),a.put (some d) v={a with tmps:=a.tmps.setIfInBounds d v})∧(∀ (a:Act) (v:Value),a.put none v=a)∧
  (∀ {α:Type} (l:List α) (i:Nat) (x:α),l.toArray.setIfInBounds i x=(l.set i x).toArray)∧(∀ {α:Type} (l:List α) (x y:α),(x::l).set 0 y=y::l)∧
  (∀ {α:Type} (l:List α) (x y:α) (n:Nat),(x::l).set (n+1) y=x::l.set n y)∧(∀ {α:Type} (l:List α) (i:Nat) (h:i < l.toArray.size),l.toArray[i]'h=l[i]'(by simpa using h))∧
  (∀ {α:Type} (l:List α) (x:α),(x::l)[0]=x)∧(∀ {α:Type} (l:List α) (x:α) (n:Nat) (h:n+1 < (x::l).length),(x::l)[n+1]'h=l[n]'(by simpa using h)):=
 ⟨fun _ _ _=>rfl,fun _ _=>rfl,by simp,by simp,by simp,by simp,by simp,by simp⟩
theorem tk{P:Program}{md:Region.Mode}{ops:Array Oper}{Q:Exit→Act→World→Prop}{S:World→Prop}(i:Nat){oi:Oper}(v:Value){fuel:Nat}{listed:Array Bool}{a a':Act}{w:World}(hi:ops[i]? =some oi)
  (hy:YieldsIf P ops S oi v a) (h:wpAnyH P md ops Q S fuel (listed.setIfInBounds i true) a' w) (hl:a.put oi.dst v=a':=by(try simp only[lay]);(try exact rfl)) (hS:S w:=by assumption) (hs:Region.noSelect ops=true:=by kernel_rfl) (hf:Region.free md ops listed i=true:=by kernel_rfl)
  (hr:(Region.ready md ops listed).contains i=true:=by kernel_rfl) (hQ:∀ c a w,Q (.panic c) (a.put oi.dst v) w→Q (.panic c) a w:=by exact fun _ _ _ h=>h):wpAnyH P md ops Q S (fuel+1) listed a w:=
 by subst hl;exact wpAnyH_take hi hs hf hr hQ hy hS h
theorem tq{P:Program}{md:Region.Mode}{ops:Array Oper}{Q:Exit→Act→World→Prop}{S:World→Prop}(i:Nat){oi:Oper}{v:Value}{fuel:Nat}{listed:Array Bool}{a a':Act}{w:World}(hi:ops[i]? =some oi)
  (h:wpAnyH P md ops Q S fuel (listed.setIfInBounds i true) a' w) (hy:YieldsIf P ops S oi v a:=by(refine Or.inl ⟨by rfl,?_⟩;((intro w hSw;(try dsimp only at hSw);go_simp)<;>with_reducible rfl))) (hl:a.put oi.dst v=a':=by(try simp only[lay]);(try exact rfl)) (hS:S w:=by assumption) (hs:Region.noSelect ops=true:=by kernel_rfl) (hf:Region.free md ops listed i=true:=by kernel_rfl)
  (hr:(Region.ready md ops listed).contains i=true:=by kernel_rfl) (hQ:∀ c a w,Q (.panic c) (a.put oi.dst v) w→Q (.panic c) a w:=by exact fun _ _ _ h=>h):wpAnyH P md ops Q S (fuel+1) listed a w:=
 by subst hl;exact wpAnyH_take hi hs hf hr hQ hy hS h
theorem rd1{P:Program}{md:Region.Mode}{ops:Array Oper}{Q:Exit→Act→World→Prop}{S:World→Prop}(i:Nat){o:Oper}{fuel:Nat}{listed:Array Bool}{a:Act}{w:World}(ho:ops[i]? =some o)
  (h:∀ K':Act→World→Prop,Shut (∀ a w,S w→(S w→wpAnyH P md ops Q S fuel (listed.setIfInBounds i true) a w)→K' a w)→if Region.wanted o (yielded ops a.tmps)=true then Oper.wp P o a w K' Q else K' (a.put o.dst undef) w)
  (hr:Region.ready md ops listed=[i]:=by kernel_rfl):wpAnyH P md ops Q S (fuel+1) listed a w:=
 wpAnyH_ready hr (by simp) (AllReadyH.cons ho h AllReadyH.nil)
structure Env where
 w0:World
 P:Pl
 I:Im
 pi:Option Addr
 ci:Nat
 pq:Option Addr
 cq:Nat
 T:Tp
 w1:World
 lo:Nat
 hi:Nat
 mp:Nat
 b:Nat
def inC(l:List Int):List Value:=l.map (Value.int .u16)
def irC(l:List Int):List Value:=l.map (Value.int .u8)
def evC(l:List (Int × Int)):List Value:=l.flatMap fun e=>[.int .u16 e.1,.int .u16 e.2]
def hdC(E:Env)(S:Ms):List Value:=[.slice E.P.p0 E.I.banks.length E.P.c0,.int .u16 E.I.en,.int .u16 E.I.ve,.slice E.P.p1 E.I.data.length E.P.c1,.slice E.P.p2 E.I.rel.length E.P.c2,
 .slice E.pi E.T.inn.length E.ci,.slice E.pq E.T.irq.length E.cq,
 .int .u16 (S.r 0),.int .u16 (S.r 1),.int .u16 (S.r 2),.int .u16 (S.r 3),.int .u16 (S.r 4),.int .u16 (S.r 5),.int .u16 (S.r 6),.int .u16 (S.r 7),
 .int .u16 S.pc,.int .u16 (S.sp:Nat),.int .u16 S.fp,.int .u16 S.f,.int .i64 S.aF,.int .i64 S.steps,.int .i64 S.inp,.int .i64 S.pol]
def mcV(E:Env)(S:Ms)(ov:Value)(j:Nat):Value:=
 if j < 23 then(hdC E S).getD j (.bool false) else if j < 8215 then .int .u8 (S.ram (j-23)) else if j < 12311 then .int .u16 (S.stk (j-8215)) else if j=12311 then ov else .map (some E.mp)
def rowOf:Value→Option Nat
 | .slice (some a) _ cap=>if cap=0 then none else some a.block
 | _=>none
def Evs(w:World)(ov:Value)(l:List (Int × Int)):Prop:=(∃ p,ov= .slice p 0 0∧l=[])∨(w.ownsRow 0 81 2 ov l.length (evC l)∧ov.ownBlock=rowOf ov)
def Slo(w:World)(p:Option Addr)(cs:List Value):Prop:=∀ j x,cs[j]? =some x→∃ g o,p=some ⟨g,o,none⟩∧w.cell? ⟨g,o+j,none⟩=some x
theorem Sl.slo{w:World}{p:Option Addr}{cs:List Value}(h:Sl w p cs):Slo w p cs:=fun j x hx=>by
 obtain⟨g,hp,hc⟩:=h j x hx;exact⟨g,0,hp,by rw[Nat.zero_add];exact hc⟩
theorem Slo.below{w w':World}{p:Option Addr}{cs:List Value}(h:Slo w p cs)(hb:Below w.heap.size w w'):Slo w' p cs:=fun j x hx=>by
 obtain⟨g,o,hg,hc⟩:=h j x hx;exact⟨g,o,hg,(hb.cell (p:=⟨g,o+j,none⟩) (World.block_lt_of_cell? _ _ hc)).trans hc⟩
structure Env.Ok(E:Env):Prop where
 I:E.I.Ok
 T:E.T.Ok
 has:Has E.w0 E.P E.I
 hin:Slo E.w0 E.pi (inC E.T.inn)
 hir:Slo E.w0 E.pq (irC E.T.irq)
 tab:iq E.w0
 pos:0 < E.w0.heap.size
 lo:E.w0.heap.size≤E.lo
 mp0:E.lo≤E.mp
 mp1:E.mp < E.hi
 b:E.hi≤E.b
def OwnB(E:Env)(ov:Value):Prop:=∀ g,rowOf ov=some g→E.w0.heap.size≤g∧(g < E.lo∨E.hi≤g)∧g≠E.b
structure Mc(E:Env)(ov:Value)(S:Ms)(w:World):Prop where
 ok:S.Ok
 env:E.Ok
 bel:Below E.w0.heap.size E.w0 w
 mid:∀ k,E.lo≤k→k < E.hi→w.heap[k]? =E.w1.heap[k]?
 blk:∃ A,w.heap[E.b]? =some (.cells A 117 (0,0))∧A.size=12313∧∀ j,j < 12313→A[j]? =some (mcV E S ov j)
 out:Evs w ov S.out
 own:OwnB E ov
theorem Mc.at{E:Env}{ov:Value}{S:Ms}{w:World}(h:Mc E ov S w)(j:Nat)(hj:j < 12313):w.cell? ⟨E.b,j,none⟩=some (mcV E S ov j):=by
 obtain⟨A,h1,h2,h3⟩:=h.blk;exact ae h1 j _ (h3 j hj)
theorem Mc.frz{E:Env}{ov:Value}{S:Ms}{w:World}(h:Mc E ov S w)(j:Nat):w.frozen? ⟨E.b,j,none⟩=false:=by
 obtain⟨A,h1,h2,h3⟩:=h.blk;exact frozen_of_row w E.b j _ _ h1
theorem Mc.lt{E:Env}{ov:Value}{S:Ms}{w:World}(h:Mc E ov S w):E.b < w.heap.size:=by
 obtain⟨A,h1,h2,h3⟩:=h.blk;exact lt_of_block h1
theorem Mc.hd{E:Env}{ov:Value}{S:Ms}{w:World}(h:Mc E ov S w)(j:Nat)(x:Value)(hj:j < 23)(hx:(hdC E S)[j]? =some x):w.cell? ⟨E.b,j,none⟩=some x:=by
 rw[h.at j (by omega),mcV,if_pos hj,List.getD_eq_getElem?_getD,hx];rfl
theorem Mc.c15{E:Env}{ov:Value}{S:Ms}{w:World}(h:Mc E ov S w):w.cell? ⟨E.b,15,none⟩=some (.int .u16 S.pc):=h.hd 15 _ (by decide) rfl
theorem Mc.c16{E:Env}{ov:Value}{S:Ms}{w:World}(h:Mc E ov S w):w.cell? ⟨E.b,16,none⟩=some (.int .u16 (S.sp:Nat)):=h.hd 16 _ (by decide) rfl
theorem Mc.c17{E:Env}{ov:Value}{S:Ms}{w:World}(h:Mc E ov S w):w.cell? ⟨E.b,17,none⟩=some (.int .u16 S.fp):=h.hd 17 _ (by decide) rfl
theorem Mc.c18{E:Env}{ov:Value}{S:Ms}{w:World}(h:Mc E ov S w):w.cell? ⟨E.b,18,none⟩=some (.int .u16 S.f):=h.hd 18 _ (by decide) rfl
theorem Mc.c19{E:Env}{ov:Value}{S:Ms}{w:World}(h:Mc E ov S w):w.cell? ⟨E.b,19,none⟩=some (.int .i64 S.aF):=h.hd 19 _ (by decide) rfl
theorem Mc.c20{E:Env}{ov:Value}{S:Ms}{w:World}(h:Mc E ov S w):w.cell? ⟨E.b,20,none⟩=some (.int .i64 S.steps):=h.hd 20 _ (by decide) rfl
theorem Mc.c21{E:Env}{ov:Value}{S:Ms}{w:World}(h:Mc E ov S w):w.cell? ⟨E.b,21,none⟩=some (.int .i64 S.inp):=h.hd 21 _ (by decide) rfl
theorem Mc.c22{E:Env}{ov:Value}{S:Ms}{w:World}(h:Mc E ov S w):w.cell? ⟨E.b,22,none⟩=some (.int .i64 S.pol):=h.hd 22 _ (by decide) rfl
theorem Mc.c2{E:Env}{ov:Value}{S:Ms}{w:World}(h:Mc E ov S w):w.cell? ⟨E.b,2,none⟩=some (.int .u16 E.I.ve):=h.hd 2 _ (by decide) rfl
theorem Mc.cOut{E:Env}{ov:Value}{S:Ms}{w:World}(h:Mc E ov S w):w.cell? ⟨E.b,12311,none⟩=some ov:=by rw[h.at _ (by decide)];rfl
theorem Mc.mZ{E:Env}{ov:Value}{S:Ms}{w:World}(h:Mc E ov S w):w.cell? ⟨E.b,12312,none⟩=some (.map (some E.mp)):=by rw[h.at _ (by decide)];rfl
theorem Mc.cR{E:Env}{ov:Value}{S:Ms}{w:World}(h:Mc E ov S w)(k:Nat)(hk:k < 8):w.cell? ⟨E.b,7+k,none⟩=some (.int .u16 (S.r k)):=by
 refine h.hd (7+k) _ (by omega) ?_
 rcases(show k=0∨k=1∨k=2∨k=3∨k=4∨k=5∨k=6∨k=7 by omega) with rfl|rfl|rfl|rfl|rfl|rfl|rfl|rfl<;>rfl
theorem Mc.mY{E:Env}{ov:Value}{S:Ms}{w:World}(h:Mc E ov S w)(k:Nat)(hk:k < 8192):w.cell? ⟨E.b,23+k,none⟩=some (.int .u8 (S.ram k)):=by
 rw[h.at _ (by omega),mcV,if_neg (by omega),if_pos (by omega),show 23+k-23=k by omega]
theorem Mc.nY{E:Env}{ov:Value}{S:Ms}{w:World}(h:Mc E ov S w)(k:Nat)(hk:k < 4096):w.cell? ⟨E.b,8215+k,none⟩=some (.int .u16 (S.stk k)):=by
 rw[h.at _ (by omega),mcV,if_neg (by omega),if_neg (by omega),if_pos (by omega),show 8215+k-8215=k by omega]
theorem Evs.grown{w w':World}{ov:Value}{l:List (Int × Int)}{row:Option Nat}(h:Evs w ov l)(hg:w.grownBy w' row)(hne:rowOf ov=none∨rowOf ov≠row):Evs w' ov l:=by
 rcases h with h|h
 ·exact .inl h
 ·exact .inr ⟨h.1.kept hg (h.2▸hne),h.2⟩
theorem grown_setCell(w:World)(g j:Nat)(v:Value):w.grownBy (w.setCell ⟨g,j,none⟩ v) (some g):=
 ⟨rfl,rfl,rfl,by simp,fun k _ hk=>dn w ⟨g,j,none⟩ v k (fun e=>hk (by simp[e]))⟩
theorem Mc.store{E:Env}{ov:Value}{S S':Ms}{w:World}(h:Mc E ov S w)(j:Nat)(v:Value)(ok:S'.Ok)(hout:S'.out=S.out)(hv:∀ i,i < 12313→mcV E S' ov i=if i=j then v else mcV E S ov i):
  Mc E ov S' (w.setCell ⟨E.b,j,none⟩ v):=by
 have hg:=grown_setCell w E.b j v;have hlo:=h.env.lo;have hb:=h.env.b;have h0:=h.env.mp0;have h1:=h.env.mp1;refine⟨ok,h.env,h.bel.grown hg (by have:=h.lt;omega) (fun k hk=>by simp at hk;omega),fun k k0 k1=>(hg.block k (by have:=h.lt;omega) (by simp;omega)).trans (h.mid k k0 k1),?_,?_,h.own⟩
 ·obtain⟨A,a1,a2,a3⟩:=h.blk
  refine⟨_,bP w E.b j v _ _ _ a1,by simpa using a2,fun i hi=>?_⟩;rw[hv i hi,Array.getElem?_setIfInBounds];by_cases e:j=i
  ·subst e;simp[a2,hi]
  ·rw[if_neg e,if_neg (Ne.symm e)];exact a3 i hi
 ·rw[hout]
  refine h.out.grown hg (Or.inr fun e=>?_);exact(h.own _ e).2.2 rfl
theorem Mc.kept{E:Env}{ov:Value}{S:Ms}{w w':World}(h:Mc E ov S w)(hb:Below w.heap.size w w'):Mc E ov S w':=by
 have hlt:=h.lt;have h0:=h.env.b;have h1:=h.env.lo;have h2:=h.env.mp0;have h3:=h.env.mp1;refine⟨h.ok,h.env,h.bel.trans (hb.mono (by omega)),fun k k0 k1=>(hb.block k (by omega)).trans (h.mid k k0 k1),?_,?_,h.own⟩
 ·obtain⟨A,a1,a2,a3⟩:=h.blk
  exact⟨A,(hb.block _ hlt).trans a1,a2,a3⟩
 ·exact h.out.grown (below_grown hb) (by cases rowOf ov<;>simp)
theorem Mc.alloc{E:Env}{ov:Value}{S:Ms}{w:World}(h:Mc E ov S w)(o:Obj):Mc E ov S (w.alloc o):=h.kept ((Below.refl _ _).alloc (Nat.le_refl _) o)
theorem Mc.drew{E:Env}{ov:Value}{S:Ms}{w:World}(h:Mc E ov S w):Mc E ov S w.drew:=h.kept (Below.refl _ _).drew
theorem jD{f:Nat→Int}{k n:Nat}{v:Int}{Q:Int→Prop}(h:∀ j,j < n→Q (f j))(hv:Q v):∀ j,j < n→Q (upd f k v j):=by
 intro j hj;unfold upd
 split
 ·exact hv
 ·exact h j hj
theorem gZ{E:Env}{S S':Ms}(ov:Value){j:Nat}{v:Value}(hj:j < 23)(h:hdC E S'=(hdC E S).set j v)(hr:S'.ram=S.ram)(hs:S'.stk=S.stk):
  ∀ i,i < 12313→mcV E S' ov i=if i=j then v else mcV E S ov i:=by
 intro i hi;unfold mcV;by_cases c:i < 23
 ·rw[if_pos c,if_pos c,h,List.getD_eq_getElem?_getD,List.getD_eq_getElem?_getD,List.getElem?_set]
  by_cases e:j=i
  ·subst e
   have:j < (hdC E S).length:=by simpa [hdC] using hj
   simp[this]
  ·rw[if_neg e,if_neg (Ne.symm e)]
 ·rw[if_neg c,if_neg c,hr,hs]
  exact(if_neg (by omega)).symm
section
variable {E:Env} {ov:Value} {S:Ms} {w:World}
theorem Mc.dF(h:Mc E ov S w)(v:Int)(hv:U16 v):Mc E ov {S with pc:=v} (w.setCell ⟨E.b,15,none⟩ (.int .u16 v)):=
 h.store 15 _ {h.ok with pc:=hv} rfl (gZ ov (by decide) rfl rfl rfl)
theorem Mc.vz(h:Mc E ov S w)(n:Nat)(hn:n≤4096):Mc E ov {S with sp:=n} (w.setCell ⟨E.b,16,none⟩ (.int .u16 (n:Int))):=
 h.store 16 _ {h.ok with sp:=hn} rfl (gZ ov (by decide) rfl rfl rfl)
theorem Mc.kW(h:Mc E ov S w)(v:Int)(hv:U16 v):Mc E ov {S with fp:=v} (w.setCell ⟨E.b,17,none⟩ (.int .u16 v)):=
 h.store 17 _ {h.ok with fp:=hv} rfl (gZ ov (by decide) rfl rfl rfl)
theorem Mc.oL(h:Mc E ov S w)(v:Int)(hv:U16 v):Mc E ov {S with f:=v} (w.setCell ⟨E.b,18,none⟩ (.int .u16 v)):=
 h.store 18 _ {h.ok with f:=hv} rfl (gZ ov (by decide) rfl rfl rfl)
theorem Mc.fQ(h:Mc E ov S w)(v:Int)(hv:I64 v):Mc E ov {S with aF:=v} (w.setCell ⟨E.b,19,none⟩ (.int .i64 v)):=
 h.store 19 _ {h.ok with aF:=hv} rfl (gZ ov (by decide) rfl rfl rfl)
theorem Mc.lT(h:Mc E ov S w)(v:Int)(hv:I64 v):Mc E ov {S with steps:=v} (w.setCell ⟨E.b,20,none⟩ (.int .i64 v)):=
 h.store 20 _ {h.ok with steps:=hv} rfl (gZ ov (by decide) rfl rfl rfl)
theorem Mc.nJ(h:Mc E ov S w)(v:Int)(hv:I64 v):Mc E ov {S with inp:=v} (w.setCell ⟨E.b,21,none⟩ (.int .i64 v)):=
 h.store 21 _ {h.ok with inp:=hv} rfl (gZ ov (by decide) rfl rfl rfl)
theorem Mc.nI(h:Mc E ov S w)(v:Int)(hv:I64 v):Mc E ov {S with pol:=v} (w.setCell ⟨E.b,22,none⟩ (.int .i64 v)):=
 h.store 22 _ {h.ok with pol:=hv} rfl (gZ ov (by decide) rfl rfl rfl)
theorem upd_same(f:Nat→Int)(k:Nat)(v:Int):upd f k v k=v:=by simp[upd]
theorem upd_ne(f:Nat→Int){k j:Nat}(v:Int)(h:j≠k):upd f k v j=f j:=by simp[upd,h]
theorem Ms.Ok.aZ{S:Ms}(h:S.Ok)(k:Nat)(v:Int)(hv:U16 v):({S with r:=upd S.r k v} :Ms).Ok:=
 {h with r:=jD h.r hv}
theorem Mc.aZ(h:Mc E ov S w)(k:Nat)(hk:k < 8)(v:Int)(hv:U16 v):Mc E ov {S with r:=upd S.r k v} (w.setCell ⟨E.b,7+k,none⟩ (.int .u16 v)):=by
 refine h.store (7+k) _ (h.ok.aZ k v hv) rfl (gZ ov (by omega) ?_ rfl rfl)
 rcases(show k=0∨k=1∨k=2∨k=3∨k=4∨k=5∨k=6∨k=7 by omega) with rfl|rfl|rfl|rfl|rfl|rfl|rfl|rfl<;>rfl
theorem Mc.jX(h:Mc E ov S w)(k:Nat)(hk:k < 8192)(v:Int)(h0:0≤v)(h1:v < 256):Mc E ov {S with ram:=upd S.ram k v} (w.setCell ⟨E.b,23+k,none⟩ (.int .u8 v)):=by
 refine h.store (23+k) _ {h.ok with ram:=jD (Q:=fun x=>0≤x∧x < 256) h.ok.ram ⟨h0,h1⟩} rfl fun i hi=>?_
 unfold mcV;by_cases c:i < 23
 ·rw[if_pos c,if_pos c,if_neg (by omega)];rfl
 rw[if_neg c,if_neg c];by_cases d:i < 8215
 ·rw[if_pos d,if_pos d]
  by_cases e:i=23+k
  ·rw[if_pos e,e,show 23+k-23=k by omega];simp only[upd_same]
  ·rw[if_neg e];simp only[upd_ne S.ram v (show i-23≠k by omega)]
 ·rw[if_neg d,if_neg d];exact(if_neg (by omega)).symm
theorem Mc.nH(h:Mc E ov S w)(k:Nat)(hk:k < 4096)(v:Int)(hv:U16 v):Mc E ov {S with stk:=upd S.stk k v} (w.setCell ⟨E.b,8215+k,none⟩ (.int .u16 v)):=by
 refine h.store (8215+k) _ {h.ok with stk:=jD h.ok.stk hv} rfl fun i hi=>?_
 unfold mcV;by_cases c:i < 23
 ·rw[if_pos c,if_pos c,if_neg (by omega)];rfl
 rw[if_neg c,if_neg c];by_cases d:i < 8215
 ·rw[if_pos d,if_pos d,if_neg (by omega)]
 rw[if_neg d,if_neg d];by_cases f:i < 12311
 ·rw[if_pos f,if_pos f]
  by_cases e:i=8215+k
  ·rw[if_pos e,e,show 8215+k-8215=k by omega];simp only[upd_same]
  ·rw[if_neg e];simp only[upd_ne S.stk v (show i-8215≠k by omega)]
 ·rw[if_neg f,if_neg f];exact(if_neg (by omega)).symm
end
def iL(k i:Int):Value:= .agg #[.int .i64 k,.int .u16 i]
def dQ(k i:Int):List PanicEntry:=[{v:= .iface 47 (.agg #[.int .i64 k,.int .u16 i]),recovered:=false}]
theorem dw(k i:Int)(w:World):Calls Tryz.prog 61 #[.bool true,.int .i64 k,.int .u16 i] w fun e w'=>e= .returned (.tuple #[])∧w=w':=by
 go_enter Tryz.func61,Tryz.ntmps61
 go_wp2_with fail
 go_end0
 exact⟨rfl,rfl⟩
theorem bH(k i:Int)(w:World):Calls Tryz.prog 61 #[.bool false,.int .i64 k,.int .u16 i] w fun e w'=>e= .panicked (dQ k i)∧w=w':=by
 go_enter Tryz.func61,Tryz.ntmps61
 go_wp2_with fail
 exact⟨rfl,rfl,rfl⟩
theorem iV(n:Int)(w:World)(h0:0≤n)(h1:n < 65536):Calls Tryz.prog 125 #[.int .u16 n] w fun e w'=>e= .returned (.int .i64 (n%64))∧w=w':=by
 have hm:=bu n 64 h0;go_enter Tryz.func125,Tryz.ntmps125
 go_wp2_with fail
 go_ret
 exact⟨rfl,rfl⟩
theorem mP(f:Int)(w:World)(h0:0≤f)(h1:f < 65536):Calls Tryz.prog 86 #[.int .u16 f] w fun e w'=>e= .returned (.bool (cB f))∧w=w':=by
 have hc:=Nc (Eu f h0 h1);go_enter Tryz.func86,Tryz.ntmps86
 go_wp2_with fail
 go_ret
 exact⟨by rw[← hc.out];rfl,rfl⟩
theorem qF(k i:Int)(w:World):Calls Tryz.prog 54 #[.agg #[.int .i64 k,.int .u16 i]] w fun e w'=>e= .returned (.bool (k != 0))∧Below w.heap.size w w':=by
 have HB:=Nc ((Below.refl _ w).alloc (Nat.le_refl _) (.cells #[.int .i64 k,.int .u16 i] 47));go_enter Tryz.func54,Tryz.ntmps54
 go_wp2_with fail
 go_ret
 exact⟨rfl,HB.out⟩
theorem ig(a:Int)(w:World)(h:bQ a=true):Calls Tryz.prog 162 #[.int .u16 a] w fun e w'=>e= .returned (.tuple #[])∧w=w':=by
 have h0:16384≤a:=by unfold bQ at h;simp at h;omega
 have h1:a < 24576:=by unfold bQ at h;simp at h;omega
 clear h;go_enter Tryz.func162,Tryz.ntmps162
 go_wp2_with fail
 refine(dw _ _ _).mono ?_;rintro e w' ⟨rfl,rfl⟩;go_wp2_with fail
 go_end0
 exact⟨rfl,rfl⟩
theorem iJ(a:Int)(w:World)(h:bQ a=false):Calls Tryz.prog 162 #[.int .u16 a] w fun e w'=>e= .panicked (dQ 2 a)∧w=w':=by
 by_cases h0:16384≤a
 ·have h1:¬ a < 24576:=by unfold bQ at h;simp at h;omega
  clear h;go_enter Tryz.func162,Tryz.ntmps162
  go_wp2_with fail
  refine(bH _ _ _).mono ?_;rintro e w' ⟨rfl,rfl⟩;go_wp2_with fail
  exact⟨rfl,rfl,rfl⟩
 ·clear h
  go_enter Tryz.func162,Tryz.ntmps162
  go_wp2_with fail
  refine(bH _ _ _).mono ?_;rintro e w' ⟨rfl,rfl⟩;go_wp2_with fail
  exact⟨rfl,rfl,rfl⟩
theorem ah(w:World)(r:Option Nat):w.grownBy w r:=⟨rfl,rfl,rfl,Nat.le_refl _,fun _ _ _=>rfl⟩
theorem ag{w w':World}{b:Nat}(h:w.grownBy w' (some b))(j:Nat)(v:Value):w.grownBy (w'.setCell ⟨b,j,none⟩ v) (some b):=
 ⟨h.os,h.tape,h.output,by simpa using h.size,fun k hk hne=>(dn w' ⟨b,j,none⟩ v k (fun e=>hne (by simp[e]))).trans (h.block k hk hne)⟩
theorem aO{w w':World}{r:Option Nat}(h:w.grownBy w' r):w.grownBy w'.drew r:=⟨h.os,h.tape,h.output,h.size,h.block⟩
theorem aS{w w1 w2:World}{r:Option Nat}(h:w.grownBy w1 r)(g:w1.grownBy w2 r):w.grownBy w2 r:=
 ⟨g.os.trans h.os,g.tape.trans h.tape,g.output.trans h.output,Nat.le_trans h.size g.size,fun k hk hne=>(g.block k (Nat.lt_of_lt_of_le hk h.size) hne).trans (h.block k hk hne)⟩
theorem ak{w w1 w2:World}{r:Option Nat}(h:w.grownBy w1 r)(g:Below w1.heap.size w1 w2):w.grownBy w2 r:=
 aS h ⟨g.os,g.tape,g.output,g.size,fun k hk _=>g.block k hk⟩
theorem aJ{w w':World}{r:Option Nat}(h:w.grownBy w' r)(o:Obj):w.grownBy (w'.alloc o) r:=ak h ((Below.refl _ _).alloc (Nat.le_refl _) o)
theorem jc(E:Env)(ov:Value)(S:Ms)(n:Int)(w:World)(h:Mc E ov S w)(hn:U16 n)(hs:S.sp < 4096):
  Calls Tryz.prog 79 #[.pointer (some ⟨E.b,0,none⟩),.int .u16 n] w fun e w'=>e= .returned (.tuple #[])∧Mc E ov (psh S n) w'∧w.grownBy w' (some E.b):=by
 have H:=Nc h;have c16:=h.c16;have hf:=h.frz;have s1:((S.sp:Nat):Int) < 4096:=by omega
 have ck:=h.nY S.sp hs;obtain⟨b,hb⟩:∃ b,E.b=b:=⟨_,rfl⟩;have HX:=Nc (show Mc E ov (psh S n) ((w.setCell ⟨b,8215+S.sp,none⟩ (.int .u16 n)).setCell ⟨b,16,none⟩ (.int .u16 ((S.sp:Int)+1))).drew by rw[← hb];exact((h.nH S.sp hs n hn).vz (S.sp+1) hs).drew);rw[hb] at c16 hf ck⊢;clear h;go_enter Tryz.func79,Tryz.ntmps79
 go_wp2_with fail
 refine(dw _ _ _).mono ?_;rintro e w' ⟨rfl,rfl⟩;go_wp2_with fail
 go_region
 go_wp2_with fail
 go_end0
 exact⟨rfl,HX.out,aO (ag (ag (ah _ _) _ _) _ _)⟩
theorem jd(E:Env)(ov:Value)(S:Ms)(n:Int)(w:World)(h:Mc E ov S w)(hs:4096≤S.sp):
  Calls Tryz.prog 79 #[.pointer (some ⟨E.b,0,none⟩),.int .u16 n] w fun e w'=>e= .panicked (dQ 5 0)∧w=w':=by
 have c16:=h.c16;obtain⟨x,hx⟩:∃ x:Int,((S.sp:Nat):Int)=x:=⟨_,rfl⟩;have s1:¬ x < 4096:=by omega
 rw[hx] at c16;clear hx hs;obtain⟨b,hb⟩:∃ b,E.b=b:=⟨_,rfl⟩;rw[hb] at c16⊢;clear h;go_enter Tryz.func79,Tryz.ntmps79
 go_wp2_with fail
 refine(bH _ _ _).mono ?_;rintro e w' ⟨rfl,rfl⟩;go_wp2_with fail
 exact⟨rfl,rfl,rfl⟩
theorem kw(E:Env)(ov:Value)(S:Ms)(w:World)(h:Mc E ov S w)(hs:0 < S.sp):
  Calls Tryz.prog 144 #[.pointer (some ⟨E.b,0,none⟩)] w fun e w'=>e= .returned (.int .u16 (S.stk (S.sp-1)))∧Mc E ov {S with sp:=S.sp-1} w'∧w.grownBy w' (some E.b):=by
 have H:=Nc h;have c16:=h.c16;have hf:=h.frz;obtain⟨k,hk⟩:∃ k,S.sp=k+1:=⟨S.sp-1,by omega⟩;have hk2:k < 4096:=by have:=h.ok.sp;omega
 have ck:=h.nY k hk2;obtain⟨b,hb⟩:∃ b,E.b=b:=⟨_,rfl⟩;have HX:=Nc (show Mc E ov {S with sp:=S.sp-1} (w.setCell ⟨b,16,none⟩ (.int .u16 (k:Int))).drew by rw[← hb,hk];exact(h.vz k (by omega)).drew);rw[hk,show(((k+1:Nat):Nat):Int)=(k:Int)+1 by omega] at c16;rw[hk] at HX⊢;have hk3:(k:Int) < 4096:=by omega
 rw[hb] at c16 hf ck⊢;clear h hs;go_enter Tryz.func144,Tryz.ntmps144
 go_wp2_with fail
 refine(dw _ _ _).mono ?_;rintro e w' ⟨rfl,rfl⟩;go_wp2_with fail
 go_region
 go_wp2_with fail
 go_ret
 exact⟨rfl,HX.out,aO (ag (ah _ _) _ _)⟩
theorem kz(E:Env)(ov:Value)(S:Ms)(w:World)(h:Mc E ov S w)(hs:S.sp=0):
  Calls Tryz.prog 144 #[.pointer (some ⟨E.b,0,none⟩)] w fun e w'=>e= .panicked (dQ 5 0)∧w=w':=by
 have c16:=h.c16;rw[hs,show((0:Nat):Int)=0 from rfl] at c16;obtain⟨b,hb⟩:∃ b,E.b=b:=⟨_,rfl⟩;rw[hb] at c16⊢;clear h;go_enter Tryz.func144,Tryz.ntmps144
 go_wp2_with fail
 refine(bH _ _ _).mono ?_;rintro e w' ⟨rfl,rfl⟩;go_wp2_with fail
 exact⟨rfl,rfl,rfl⟩
theorem xn(E:Env)(ov:Value)(S:Ms)(a:Int)(w:World)(h:Mc E ov S w)(ha:bQ a=true):
  Calls Tryz.prog 139 #[.pointer (some ⟨E.b,0,none⟩),.int .u16 a] w fun e w'=>e= .returned (.int .u8 (eY S a))∧w=w':=by
 have H:=Nc (fun W=>ig a W ha);obtain⟨k,hk,hk2⟩:∃ k:Nat,a=16384+k∧k < 8192:=⟨(a-16384).toNat,by unfold bQ at ha;simp at ha;omega,by unfold bQ at ha;simp at ha;omega⟩;subst hk;have ck:=h.mY k hk2;have hv:Hid (eY S (16384+k)=S.ram k):=Nc (by unfold eY;congr 1;omega);obtain⟨b,hb⟩:∃ b,E.b=b:=⟨_,rfl⟩;rw[hb] at ck⊢;clear h ha;go_enter Tryz.func139,Tryz.ntmps139
 go_wp2_with fail
 refine(H.out _).mono ?_;rintro e w' ⟨rfl,rfl⟩;go_wp2_with fail
 go_ret
 exact⟨by rw[hv.out];rfl,rfl⟩
theorem xq(E:Env)(a:Int)(w:World)(ha:bQ a=false):
  Calls Tryz.prog 139 #[.pointer (some ⟨E.b,0,none⟩),.int .u16 a] w fun e w'=>e= .panicked (dQ 2 a)∧w=w':=by
 have H:=Nc (fun W=>iJ a W ha);clear ha;go_enter Tryz.func139,Tryz.ntmps139
 go_wp2_with fail
 refine(H.out _).mono ?_;rintro e w' ⟨rfl,rfl⟩;go_wp2_with fail
 exact⟨rfl,rfl,rfl⟩
theorem jE(E:Env)(ov:Value)(S:Ms)(a v:Int)(w:World)(h:Mc E ov S w)(ha:bQ a=true)(v0:0≤v)(v1:v < 256):
  Calls Tryz.prog 141 #[.pointer (some ⟨E.b,0,none⟩),.int .u16 a,.int .u8 v] w fun e w'=>e= .returned (.tuple #[])∧Mc E ov {S with ram:=upd S.ram (a-16384).toNat v} w'∧w.grownBy w' (some E.b):=by
 have H:=Nc (fun W=>ig a W ha);obtain⟨k,hk,hk2⟩:∃ k:Nat,a=16384+k∧k < 8192:=⟨(a-16384).toNat,by unfold bQ at ha;simp at ha;omega,by unfold bQ at ha;simp at ha;omega⟩;subst hk;have ck:=h.mY k hk2;have hf:=h.frz;have hz:((16384:Int)+k-16384).toNat=k:=by omega
 obtain⟨b,hb⟩:∃ b,E.b=b:=⟨_,rfl⟩;have HX:=Nc (show Mc E ov {S with ram:=upd S.ram ((16384:Int)+k-16384).toNat v} (w.setCell ⟨b,23+k,none⟩ (.int .u8 v)) by rw[← hb,hz];exact h.jX k hk2 v v0 v1);rw[hb] at ck hf⊢;clear h ha hz;go_enter Tryz.func141,Tryz.ntmps141
 go_wp2_with fail
 refine(H.out _).mono ?_;rintro e w' ⟨rfl,rfl⟩;go_wp2_with fail
 go_end0
 exact⟨rfl,HX.out,ag (ah _ _) _ _⟩
theorem tX(E:Env)(a v:Int)(w:World)(ha:bQ a=false):
  Calls Tryz.prog 141 #[.pointer (some ⟨E.b,0,none⟩),.int .u16 a,.int .u8 v] w fun e w'=>e= .panicked (dQ 2 a)∧w=w':=by
 have H:=Nc (fun W=>iJ a W ha);clear ha;go_enter Tryz.func141,Tryz.ntmps141
 go_wp2_with fail
 refine(H.out _).mono ?_;rintro e w' ⟨rfl,rfl⟩;go_wp2_with fail
 exact⟨rfl,rfl,rfl⟩
set_option maxHeartbeats 1000000
structure Kp(S S':Ms):Prop where
 ram:S'.ram=S.ram
 out:S'.out=S.out
 stk:∀ j,j < S.sp→S'.stk j=S.stk j
theorem Kp.refl(S:Ms):Kp S S:=⟨rfl,rfl,fun _ _=>rfl⟩
def Post(E:Env)(ov:Value)(S:Ms)(w:World)(R:Rs)(e:Ending)(w':World):Prop:=
 match R with
 | .ok S'=>e= .returned (.tuple #[])∧Mc E ov S' w'∧w.grownBy w' (some E.b)
 | .tr k i=>e= .panicked (dQ k i)∧∃ S',Mc E ov S' w'∧Kp S S'∧w.grownBy w' (some E.b)
theorem Post.okk{E:Env}{ov:Value}{S S':Ms}{w w':World}{R:Rs}{e:Ending}(hR:R= .ok S')(he:e= .returned (.tuple #[]))(hm:Mc E ov S' w')(hg:w.grownBy w' (some E.b)):Post E ov S w R e w':=by
 subst hR;exact⟨he,hm,hg⟩
theorem Post.trr{E:Env}{ov:Value}{S S':Ms}{w w':World}{R:Rs}{e:Ending}{k i:Int}(hR:R= .tr k i)(he:e= .panicked (dQ k i))(hm:Mc E ov S' w')(hk:Kp S S')(hg:w.grownBy w' (some E.b)):Post E ov S w R e w':=by
 subst hR;exact⟨he,S',hm,hk,hg⟩
theorem Kp.psh{S S':Ms}(h:Kp S S')(n:Int)(hs:S.sp≤S'.sp):Kp S (psh S' n):=
 ⟨h.ram,h.out,fun j hj=>(upd_ne _ _ (by omega)).trans (h.stk j hj)⟩
theorem dU(x:Int):U16 (x%65536):=⟨by omega,by omega⟩
theorem wu(x:Int):I64 (x%64):=⟨by omega,by omega⟩
theorem fC(E:Env)(ov:Value)(S:Ms)(w:World)(h:Mc E ov S w):
  Calls Tryz.prog 80 #[.pointer (some ⟨E.b,0,none⟩)] w fun e w'=>Post E ov S w (room S 2 (bJ S)) e w':=by
 have H:=Nc h;have c19:=h.c19;have hpc:=Nc h.ok.pc;obtain⟨r,hr⟩:∃ r,room S 2 (bJ S)=r:=⟨_,rfl⟩;have HR:=Nc hr;rw[hr];clear h hr;by_cases s1:S.sp < 4096
 ·go_enter Tryz.func80,Tryz.ntmps80
  go_wp2_with fail
  refine(jc E ov S (S.aF%65536) _ H.out (dU _) s1).mono ?_;rintro e w1 ⟨rfl,hm,hg⟩;have HM:=Nc hm;have HG:=Nc hg;have c15:w1.cell? ⟨E.b,15,none⟩=some (.int .u16 S.pc):=hm.c15;clear c19 hm hg;go_wp2_with fail
  by_cases s2:S.sp+1 < 4096
  ·refine(jc E ov _ S.pc _ HM.out hpc.out s2).mono ?_
   rintro e w2 ⟨rfl,hm,hg⟩;have HM2:=Nc hm;have HG2:=Nc hg;clear c15 hm hg;go_wp2_with fail
   go_end0
   exact Post.okk (HR.out.symm.trans (if_pos (by omega))) rfl HM2.out (aS HG.out HG2.out)
  ·refine(jd E ov _ S.pc _ HM.out (by simp only[psh];omega)).mono ?_
   rintro e w2 ⟨rfl,rfl⟩;go_wp2_with fail
   exact⟨rfl,Post.trr (HR.out.symm.trans (if_neg (by omega))) rfl HM.out ((Kp.refl S).psh _ (Nat.le_refl _)) HG.out⟩
 ·go_enter Tryz.func80,Tryz.ntmps80
  go_wp2_with fail
  refine(jd E ov S (S.aF%65536) _ H.out (by omega)).mono ?_;rintro e w1 ⟨rfl,rfl⟩;go_wp2_with fail
  exact⟨rfl,Post.trr (HR.out.symm.trans (if_neg (by omega))) rfl H.out (Kp.refl S) (ah _ _)⟩
theorem kY(E:Env)(ov:Value)(S:Ms)(w:World)(h:Mc E ov S w):
  Calls Tryz.prog 148 #[.pointer (some ⟨E.b,0,none⟩)] w fun e w'=>Post E ov S w (oN S) e w':=by
 have H:=Nc h;have c15:=h.c15;have hf:=h.frz;have hst:=Nc h.ok.stk;have hsp:=h.ok.sp;obtain⟨r,hr⟩:∃ r,oN S=r:=⟨_,rfl⟩;have HR:=Nc hr;rw[hr];clear h hr;by_cases s1:0 < S.sp
 ·have hv:=hst.out (S.sp-1) (by omega)
  go_enter Tryz.func148,Tryz.ntmps148
  go_wp2_with fail
  refine(kw E ov S _ H.out s1).mono ?_;rintro e w1 ⟨rfl,hm,hg⟩;obtain⟨v,hvv⟩:∃ v,S.stk (S.sp-1)=v:=⟨_,rfl⟩;rw[hvv] at hv⊢;have HV:=Nc hvv;have HM:=Nc (hm.dF v hv);have HG:=Nc (ag hg 15 (.int .u16 v));have c15':w1.cell? ⟨E.b,15,none⟩=some (.int .u16 S.pc):=hm.c15;have c19':w1.cell? ⟨E.b,19,none⟩=some (.int .i64 S.aF):=hm.c19;have hf':=hm.frz;clear c15 hf hm hg hvv;go_wp2_with fail
  by_cases s2:1 < S.sp
  ·have hv2:=hst.out (S.sp-2) (by omega)
   refine(kw E ov _ _ HM.out (show 0 < S.sp-1 by omega)).mono ?_;rintro e w2 ⟨rfl,hm2,hg2⟩;have e2:S.sp-1-1=S.sp-2:=by omega
   obtain⟨u,hu⟩:∃ u,S.stk (S.sp-2)=u:=⟨_,rfl⟩;simp only[e2] at hm2⊢;rw[hu] at hv2⊢;have HU:=Nc hu;have HM2:=Nc (hm2.fQ (u%64) (wu u));have HG2:=Nc (ag hg2 19 (.int .i64 (u%64)));have d19:w2.cell? ⟨E.b,19,none⟩=some (.int .i64 S.aF):=hm2.c19;have df:=hm2.frz;have hu0:=hv2.1;have hu1:=hv2.2;clear hm2 hg2 hu c15' c19' hf' hv hv2;go_wp2_with fail
   refine(iV u _ hu0 hu1).mono ?_;rintro e w3 ⟨rfl,rfl⟩;go_wp2_with fail
   go_end0
   refine Post.okk (S':={S with pc:=v,aF:=u%64,sp:=S.sp-2}) (HR.out.symm.trans ((if_pos (by omega)).trans ?_)) rfl HM2.out (aS HG.out HG2.out);rw[HV.out,HU.out]
  ·refine(kz E ov _ _ HM.out (show S.sp-1=0 by omega)).mono ?_
   rintro e w2 ⟨rfl,rfl⟩;go_wp2_with fail
   exact⟨rfl,Post.trr (HR.out.symm.trans (if_neg (by omega))) rfl HM.out ⟨rfl,rfl,fun _ _=>rfl⟩ HG.out⟩
 ·go_enter Tryz.func148,Tryz.ntmps148
  go_wp2_with fail
  refine(kz E ov S _ H.out (by omega)).mono ?_;rintro e w1 ⟨rfl,rfl⟩;go_wp2_with fail
  exact⟨rfl,Post.trr (HR.out.symm.trans (if_neg (by omega))) rfl H.out (Kp.refl S) (ah _ _)⟩
theorem ul(E:Env)(ov:Value)(S:Ms)(w:World)(h:Mc E ov S w)(hs:S.sp < 2):
  Calls Tryz.prog 148 #[.pointer (some ⟨E.b,0,none⟩)] w fun e w'=>e= .panicked (dQ 5 0)∧∃ S',Mc E ov S' w'∧S'.ram=S.ram∧S'.out=S.out∧S'.stk=S.stk∧w.grownBy w' (some E.b):=by
 have H:=Nc h;have c15:=h.c15;have hf:=h.frz;have hst:=Nc h.ok.stk;clear h;by_cases s1:0 < S.sp
 ·have hv:=hst.out (S.sp-1) (by omega)
  go_enter Tryz.func148,Tryz.ntmps148
  go_wp2_with fail
  refine(kw E ov S _ H.out s1).mono ?_;rintro e w1 ⟨rfl,hm,hg⟩;obtain⟨v,hvv⟩:∃ v,S.stk (S.sp-1)=v:=⟨_,rfl⟩;rw[hvv] at hv⊢;have HM:=Nc (hm.dF v hv);have HG:=Nc (ag hg 15 (.int .u16 v));have c15':w1.cell? ⟨E.b,15,none⟩=some (.int .u16 S.pc):=hm.c15;have hf':=hm.frz;clear c15 hf hm hg hvv;go_wp2_with fail
  refine(kz E ov _ _ HM.out (show S.sp-1=0 by omega)).mono ?_;rintro e w2 ⟨rfl,rfl⟩;go_wp2_with fail
  exact⟨rfl,rfl,_,HM.out,rfl,rfl,rfl,HG.out⟩
 ·go_enter Tryz.func148,Tryz.ntmps148
  go_wp2_with fail
  refine(kz E ov S _ H.out (by omega)).mono ?_;rintro e w1 ⟨rfl,rfl⟩;go_wp2_with fail
  exact⟨rfl,rfl,_,H.out,rfl,rfl,rfl,ah _ _⟩
theorem sJ(E:Env)(ov:Value)(S:Ms)(b a:Int)(w:World)(h:Mc E ov S w)(ha:U16 a):
  Calls Tryz.prog 81 #[.pointer (some ⟨E.b,0,none⟩),.agg #[.int .i64 b,.int .u16 a]] w fun e w'=>e= .returned (.tuple #[])∧Mc E ov (gq S b a) w'∧w.grownBy w' (some E.b):=by
 have hA:=h.alloc (.cells #[.int .i64 b,.int .u16 a] 77);have HG:=Nc (aJ (ah w (some E.b)) (.cells #[.int .i64 b,.int .u16 a] 77));have hn:=heap_alloc_new w (.cells #[.int .i64 b,.int .u16 a] 77);have n0:=ae hn 0 _ rfl;have n1:=ae hn 1 _ rfl;have hne:w.heap.size≠E.b:=by have:=h.lt;omega
 have hlt:=h.lt;obtain⟨W,hW⟩:∃ W,w.alloc (.cells #[.int .i64 b,.int .u16 a] 77)=W:=⟨_,rfl⟩;rw[hW] at hA HG n0 n1;have H:=Nc (hA.dF a ha);have HG1:=Nc (ag HG.out 15 (.int .u16 a));have c15:=hA.c15;have c19:=hA.c19;have hf:=hA.frz;have HB:=Nc ((hA.dF a ha).fQ (b%64) (wu _));have HG2:=Nc (ag HG1.out 19 (.int .i64 (b%64)));obtain⟨a0,a1⟩:=ha;clear hA h hn;by_cases q:4096≤a∧a < 8192
 ·have HE:=Nc (show gq S b a={S with pc:=a,aF:=b%64} by unfold gq;rw[if_pos q])
  obtain⟨q0,q1⟩:=q;go_enter Tryz.func81,Tryz.ntmps81
  go_wp2_with fail
  refine(iV (b%65536) _ (by omega) (by omega)).mono ?_;rintro e w3 ⟨rfl,rfl⟩;go_wp2_with fail
  go_end0
  exact⟨rfl,by rw[HE.out];exact HB.out,HG2.out⟩
 ·have HE:=Nc (show gq S b a={S with pc:=a} by unfold gq;rw[if_neg q])
  by_cases q0:4096≤a
  ·have q1:¬ a < 8192:=fun c=>q ⟨q0,c⟩
   clear q;go_enter Tryz.func81,Tryz.ntmps81
   go_wp2_with fail
   go_end0
   exact⟨rfl,by rw[HE.out];exact H.out,HG1.out⟩
  ·clear q
   go_enter Tryz.func81,Tryz.ntmps81
   go_wp2_with fail
   go_end0
   exact⟨rfl,by rw[HE.out];exact H.out,HG1.out⟩
def zHd:List Value:=[.slice none 0 0,.int .u16 0,.int .u16 0,.slice none 0 0,.slice none 0 0,.slice none 0 0,.slice none 0 0,.int .u16 0,.int .u16 0,.int .u16 0,.int .u16 0,.int .u16 0,.int .u16 0,.int .u16 0,.int .u16 0,.int .u16 0,.int .u16 0,.int .u16 0,.int .u16 0,.int .i64 0,.int .i64 0,.int .i64 0,.int .i64 0]
def vG(p:Value→Bool):Nat→List Value→List Value
 | 0,l=>l
 | _+1,[]=>[.bool false]
 | n+1,x::l=>match p x with | true=>vG p n l | false=>[.bool false]
def isB:Value→Bool | .int .u8 0=>true | _=>false
def isW:Value→Bool | .int .u16 0=>true | _=>false
theorem I8{x:Value}(h:isB x=true):x= .int .u8 0:=by unfold isB at h;split at h<;>simp_all
theorem I5{x:Value}(h:isW x=true):x= .int .u16 0:=by unfold isW at h;split at h<;>simp_all
theorem uh{p:Value→Bool}{z:Value}(hp:∀ x,p x=true→x=z):∀ (n:Nat) (l r:List Value),vG p n l=r→r.length≠1→l=List.replicate n z++r
 | 0,l,r,h,_=>by simpa [vG] using h
 | n+1,[],r,h,h1=>by simp[vG] at h;subst h;simp at h1
 | n+1,x::l,r,h,h1=>by
  unfold vG at h
  split at h
  ·rename_i hx
   rw[uh hp n l r h h1,hp x hx,List.replicate_succ];rfl
  ·subst h;simp at h1
def zMc:List Value:=zHd++(List.replicate 8192 (.int .u8 0)++(List.replicate 4096 (.int .u16 0)++[.slice none 0 0,.map none]))
theorem iZ:zHd.length=23:=rfl
theorem tH:zMc.length=12313:=by
 unfold zMc;rw[List.length_append,List.length_append,List.length_append,List.length_replicate,List.length_replicate,iZ];rfl
theorem LD:((Tryz.prog.info? 117).bind (·.zero)).map (fun z=>(z.cells.toList.take 23))=some zHd:=by kernel_rfl
theorem Lu:((Tryz.prog.info? 117).bind (·.zero)).map (fun z=>(vG isB 8192 (z.cells.toList.drop 23)).take 2)=some [.int .u16 0,.int .u16 0]:=by kernel_rfl
theorem LG:((Tryz.prog.info? 117).bind (·.zero)).map (fun z=>(vG isW 4096 (vG isB 8192 (z.cells.toList.drop 23))))=some [.slice none 0 0,.map none]:=by kernel_rfl
theorem LC:∃ it z,Tryz.prog.info? 117=some it∧it.zero=some z∧z.cells.toList=zMc:=by
 have h1:=LD;have h2:=Lu;have h3:=LG;cases hi:Tryz.prog.info? 117 with
 | none=>rw[hi] at h1;simp at h1
 | some it=>
  cases hz:it.zero with
  | none=>rw[hi] at h1;simp[hz] at h1
  | some z=>
   rw[hi] at h1 h2 h3;simp only[Option.bind_some,hz,Option.map_some,Option.some.injEq] at h1 h2 h3;refine⟨it,z,rfl,hz,?_⟩;have e3:=uh (fun x=>I5) 4096 _ _ h3 (by simp);have e2:=uh (fun x=>I8) 8192 _ _ rfl (by rw[e3,List.length_append,List.length_replicate];show 4096+2≠1;omega);rw[e3] at e2;have e1:=(List.take_append_drop 23 z.cells.toList).symm;rw[h1,e2] at e1;exact e1
def spl(l:List Value)(o:Nat)(cs:List Value):List Value:=l.take o++cs++l.drop (o+cs.length)
theorem dY{l cs:List Value}{o:Nat}(h:o+cs.length≤l.length):(spl l o cs).length=l.length:=by
 unfold spl;rw[List.length_append,List.length_append,List.length_take,List.length_drop];omega
theorem jV{l cs:List Value}{o:Nat}(h:o+cs.length≤l.length)(j:Nat):(spl l o cs)[j]? =if o≤j∧j < o+cs.length then cs[j-o]? else l[j]? :=by
 unfold spl;have ht:(l.take o).length=o:=by rw[List.length_take];omega
 by_cases h1:j < o
 ·rw[if_neg (by omega),List.append_assoc,List.getElem?_append_left (by omega),List.getElem?_take,if_pos h1]
 ·by_cases h2:j < o+cs.length
  ·rw[if_pos ⟨by omega,h2⟩,List.append_assoc,List.getElem?_append_right (by omega),ht,List.getElem?_append_left (by omega)]
  ·rw[if_neg (by omega),List.getElem?_append_right (by rw[List.length_append];omega),List.getElem?_drop,List.length_append,ht]
   congr 1;omega
theorem DJ(cs:List Value):∀ (k o:Nat) (A:Array Value),o+k+cs.length≤A.size→
  ((cs.zipIdx k).foldl (fun a (x:Value × Nat)=>a.setIfInBounds (o+x.2) x.1) A).toList=spl A.toList (o+k) cs:=by
 induction cs with
 | nil=>intro k o A h;simp[spl]
 | cons c cs ih=>
  intro k o A h;simp only[List.length_cons] at h;rw[List.zipIdx_cons,List.foldl_cons,ih (k+1) o _ (by simp;omega)];have e:=list_seg_step A.toList (o+k) c cs (by simp;omega);unfold spl;rw[Array.toList_setIfInBounds,← Nat.add_assoc,e]
  simp
theorem kD(place:Nat→Option (Nat × Nat))(A:Array Value)(i:Nat)(v:Value)(rest:List (Nat × Value))(off:Nat)(hp:place i=some (off,v.cells.size))(hb:off+v.cells.size≤A.size):
  Instr.fill place A ((i,v)::rest)=Instr.fill place (spl A.toList off v.cells.toList).toArray rest:=by
 conv=>lhs;unfold Instr.fill
 simp only[hp];rw[if_neg (by simp;omega)]
 congr 1
 have e:=DJ v.cells.toList 0 off A (by simpa using hb);apply Array.ext';rw[Nat.add_zero] at e;rw[← e,← Array.foldl_toList]
 simp
theorem zW:(match Tryz.prog.underlying 117 with | some (.struct fields)=>fields.toList.mapM (fun f=>(Tryz.prog.info? f.type).map fun i=>(f.offset,i.size)) | _=>none)=some [(0,5),(5,2),(7,16),(23,8192),(8215,4096),(12311,1),(12312,1)]:=by kernel_rfl
def lh(im tp st:List Value)(ov mv:Value):List Value:=spl (spl (spl (spl (spl zMc 0 im) 5 tp) 7 st) 12311 [ov]) 12312 [mv]
theorem sG{im tp st:List Value}{ov mv:Value}(h0:im.length=5)(h1:tp.length=2)(h2:st.length=16):(lh im tp st ov mv).length=12313:=by
 unfold lh;have l0:=tH;have l1:=dY (l:=zMc) (cs:=im) (o:=0) (by omega);have l2:=dY (l:=spl zMc 0 im) (cs:=tp) (o:=5) (by omega);have l3:=dY (l:=spl (spl zMc 0 im) 5 tp) (cs:=st) (o:=7) (by omega);have l4:=dY (l:=spl (spl (spl zMc 0 im) 5 tp) 7 st) (cs:=[ov]) (o:=12311) (by simp;omega);rw[dY (by simp;omega)];omega
theorem C9{im tp st:List Value}{ov mv:Value}(h0:im.length=5)(h1:tp.length=2)(h2:st.length=16)(j:Nat):(lh im tp st ov mv)[j]? =
  if j < 5 then im[j]? else if j < 7 then tp[j-5]? else if j < 23 then st[j-7]? else if j=12311 then some ov else if j=12312 then some mv else zMc[j]? :=by
 unfold lh;have l0:=tH;have l1:=dY (l:=zMc) (cs:=im) (o:=0) (by omega);have l2:=dY (l:=spl zMc 0 im) (cs:=tp) (o:=5) (by omega);have l3:=dY (l:=spl (spl zMc 0 im) 5 tp) (cs:=st) (o:=7) (by omega);have l4:=dY (l:=spl (spl (spl zMc 0 im) 5 tp) 7 st) (cs:=[ov]) (o:=12311) (by simp;omega);rw[jV (by simp;omega),jV (by simp;omega),jV (by omega),jV (by omega),jV (by omega)];simp only[List.length_cons,List.length_nil,h0,h1,h2];by_cases c1:j < 5
 ·rw[if_neg (by omega),if_neg (by omega),if_neg (by omega),if_neg (by omega),if_pos (by omega),if_pos c1,Nat.sub_zero]
 ·rw [if_neg c1]
  by_cases c2:j < 7
  ·rw[if_neg (by omega),if_neg (by omega),if_neg (by omega),if_pos (by omega),if_pos c2]
  ·rw[if_neg c2]
   by_cases c3:j < 23
   ·rw[if_neg (by omega),if_neg (by omega),if_pos (by omega),if_pos c3]
   ·rw[if_neg c3]
    by_cases c4:j=12311
    ·subst c4;rw[if_neg (by omega),if_pos (by omega),if_pos rfl];rfl
    ·rw[if_neg c4]
     by_cases c5:j=12312
     ·subst c5;rw[if_pos (by omega),if_pos rfl];rfl
     ·rw[if_neg (by omega),if_neg (by omega),if_neg (by omega),if_neg (by omega),if_neg (by omega),if_neg c5]
theorem ED{j:Nat}(h0:23≤j)(h1:j < 8215):zMc[j]? =some (.int .u8 0):=by
 unfold zMc;rw[List.getElem?_append_right (by rw[iZ];omega),List.getElem?_append_left (by rw[iZ,List.length_replicate];omega),List.getElem?_replicate,if_pos (by rw[iZ];omega)]
theorem EC{j:Nat}(h0:8215≤j)(h1:j < 12311):zMc[j]? =some (.int .u16 0):=by
 unfold zMc;rw[List.getElem?_append_right (by rw[iZ];omega),List.getElem?_append_right (by rw[iZ,List.length_replicate];omega),List.getElem?_append_left (by rw[iZ,List.length_replicate,List.length_replicate];omega),List.getElem?_replicate,if_pos (by rw[iZ,List.length_replicate];omega)]
theorem Eo(im tp st:List Value)(ov mv:Value)(h0:im.length=5)(h1:tp.length=2)(h2:st.length=16)(ho:ov.cells=#[ov])(hm:mv.cells=#[mv]):
  Tryz.prog.built 117 [(0,.agg im.toArray),(1,.agg tp.toArray),(2,.agg st.toArray),(5,ov),(6,mv)]=some (lh im tp st ov mv).toArray:=by
 obtain⟨it,z,hi,hz,hc⟩:=LC;have hp:=zW;have hcs:z.cells=zMc.toArray:=by rw[← hc]
 unfold Program.built;cases hu:Tryz.prog.underlying 117 with
 | none=>rw[hu] at hp;simp at hp
 | some d=>
  cases d<;>try (rw[hu] at hp;simp at hp;done)
  case struct fields=>
   rw[hu] at hp;simp only at hp;simp only[hi,hz,hp];have l0:=tH;have l1:=dY (l:=zMc) (cs:=im) (o:=0) (by omega);have l2:=dY (l:=spl zMc 0 im) (cs:=tp) (o:=5) (by omega);have l3:=dY (l:=spl (spl zMc 0 im) 5 tp) (cs:=st) (o:=7) (by omega);have l4:=dY (l:=spl (spl (spl zMc 0 im) 5 tp) 7 st) (cs:=[ov]) (o:=12311) (by simp;omega);rw[hcs,kD _ _ 0 _ _ 0 (by simp[Value.cells,h0]) (by simp[Value.cells];omega)];rw[kD _ _ 1 _ _ 5 (by simp[Value.cells,h1]) (by simp[Value.cells];omega)];rw[kD _ _ 2 _ _ 7 (by simp[Value.cells,h2]) (by simp[Value.cells];omega)];rw[kD _ _ 5 _ _ 12311 (by simp[ho]) (by simp[ho];simp only[Value.cells];omega)];rw[kD _ _ 6 _ _ 12312 (by simp[hm]) (by simp[hm,ho];have:=dY (l:=spl (spl (spl zMc 0 im) 5 tp) 7 st) (cs:=[ov]) (o:=12311) (by simp;omega);simp only[Value.cells];omega)];rw[ho,hm];simp only[Instr.fill,lh,Value.cells]
end Go.Proofs.YthkcloapiefggaaGreatDoor
