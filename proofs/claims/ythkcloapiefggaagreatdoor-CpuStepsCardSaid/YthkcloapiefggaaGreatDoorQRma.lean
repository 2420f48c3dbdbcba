import Derived.Test.YthkcloapiefggaaGreatDoorQEvx
namespace Go.Proofs.YthkcloapiefggaaGreatDoor
set_option linter.unusedVariables false
set_option linter.unusedSimpArgs false
set_option maxRecDepth 100000
set_option maxHeartbeats 1000000
open Go.ChangeShapes Go.WideShapes Go.RowKit
def stL(f:Nat→Int)(n:Nat):List Value:=inC ((List.range n).map f)
theorem jF(f:Nat→Int)(n:Nat):(stL f n).length=n:=by simp[stL,inC]
theorem wY(f:Nat→Int){n j:Nat}(h:j < n):(stL f n)[j]? =some (.int .u16 (f j)):=by simp[stL,inC,h]
theorem Bo(f:Nat→Int)(n:Nat)(v:Int):stL (upd f n v) (n+1)=stL f n++[.int .u16 v]:=by
 unfold stL inC;rw[List.range_succ,List.map_append,List.map_append]
 congr 1
 ·congr 1
  exact List.map_congr_left fun j hj=>upd_ne _ _ (by have:=List.mem_range.1 hj;omega)
 ·show [Value.int .u16 (upd f n v n)]=_;rw[upd_same]
def Stq(base:Nat)(w:World)(v:Value)(n d:Nat)(f:Nat→Int):Prop:=
 (v= .slice none 0 0∧n=0∧d=0)∨∃ (g c:Nat) (A:Array Value),v= .slice (some ⟨g,0,none⟩) n c∧base≤g∧w.heap[g]? =some (.cells A 29 (0,0))∧A.size=c∧n≤c∧d≤c∧c≤maxLen∧∀ j,j < n∨j < d→A[j]? =some (.int .u16 (f j))
theorem Stq.own{base:Nat}{w:World}{v:Value}{n d:Nat}{f:Nat→Int}(h:Stq base w v n d f):w.ownsRow base 29 1 v n (stL f n):=by
 refine⟨by rw[jF];omega,?_⟩;rcases h with⟨rfl,rfl,_⟩|⟨g,c,A,rfl,hb,hA,hs,hn,hd,hc,hf⟩
 ·exact .inl ⟨rfl,rfl⟩
 ·refine .inr ⟨g,c,A,rfl,hb,hA,hn,hc,by omega,?_⟩
  apply List.ext_getElem?;intro j;rw[List.getElem?_take];by_cases hj:j < n
  ·rw[if_pos (by omega),wY f hj]
   have:=hf j (.inl hj);simpa using this
  ·rw[if_neg (by omega),List.getElem?_eq_none (by rw[jF];omega)]
theorem Stq.of{base:Nat}{w:World}{v:Value}{n d:Nat}{f:Nat→Int}(h:w.ownsRow base 29 1 v n (stL f n))(hd:d≤n):Stq base w v n d f:=by
 rcases h.2 with⟨rfl,rfl⟩|⟨g,cap,cur,rfl,hb,hg,hn,hc,hs,ht⟩
 ·exact .inl ⟨rfl,rfl,by omega⟩
 ·refine .inr ⟨g,cap,cur,rfl,hb,hg,by omega,hn,by omega,hc,fun j hj=>?_⟩
  have hj':j < n:=by omega
  have e:=wY f hj';rw[← ht,List.getElem?_take,if_pos (by omega)] at e;simpa using e
theorem Stq.kept{base:Nat}{w w':World}{v:Value}{n d:Nat}{f:Nat→Int}{row:Option Nat}(h:Stq base w v n d f)(hg:w.grownBy w' row)(hne:∀ g,v.ownBlock=some g→some g≠row):Stq base w' v n d f:=by
 rcases h with h|⟨g,c,A,rfl,hb,hA,r⟩
 ·exact .inl h
 ·exact .inr ⟨g,c,A,rfl,hb,(hg.block g (lt_of_block hA) (hne g rfl)).trans hA,r⟩
theorem Stq.typ{base:Nat}{w:World}{v:Value}{n d:Nat}{f:Nat→Int}(h:Stq base w v n d f){g:Nat}(hg:v.ownBlock=some g):base≤g∧∃ A,w.heap[g]? =some (.cells A 29 (0,0)):=by
 rcases h with⟨rfl,_⟩|⟨g',c,A,rfl,hb,hA,r⟩
 ·cases hg
 ·cases hg;exact⟨hb,A,hA⟩
theorem Evs.typ{w:World}{v:Value}{l:List (Int × Int)}(h:Evs w v l){g:Nat}(hg:rowOf v=some g):∃ A,w.heap[g]? =some (.cells A 81 (0,0)):=by
 rcases h with⟨p,rfl,_⟩|⟨h,ho⟩
 ·cases p<;>simp[rowOf] at hg
 ·rcases h.2 with⟨rfl,_⟩|⟨g',cap,cur,rfl,_,hb,_⟩
  ·simp[rowOf] at hg
  ·rw[hg] at ho
   simp[Value.ownBlock] at ho;subst ho;exact⟨cur,hb⟩
structure Qe where
 w0:World
 P:Pl
 I:Im
 pi:Option Addr
 ci:Nat
 pq:Option Addr
 cq:Nat
 T:Tp
 b:Nat
 rb:Nat
 q:Int
structure Qe.Ok(E:Qe):Prop where
 I:E.I.Ok
 T:E.T.Ok
 has:Has E.w0 E.P E.I
 hin:Slo E.w0 E.pi (inC E.T.inn)
 hir:Slo E.w0 E.pq (irC E.T.irq)
 b:E.w0.heap.size≤E.b
 rb:E.w0.heap.size≤E.rb
def mqA(E:Qe)(S:Ms)(sv ov:Value)(k i:Int):Array Value:=#[.slice E.P.p0 E.I.banks.length E.P.c0,.int .u16 E.I.en,.int .u16 E.I.ve,.slice E.P.p1 E.I.data.length E.P.c1,.slice E.P.p2 E.I.rel.length E.P.c2,
 .slice E.pi E.T.inn.length E.ci,.slice E.pq E.T.irq.length E.cq,
 .int .u16 (S.r 0),.int .u16 (S.r 1),.int .u16 (S.r 2),.int .u16 (S.r 3),.int .u16 (S.r 4),.int .u16 (S.r 5),.int .u16 (S.r 6),.int .u16 (S.r 7),
 .int .u16 S.pc,.int .u16 E.q,.int .u16 S.fp,.int .u16 S.f,.int .i64 S.aF,.int .i64 S.steps,.int .i64 S.inp,.int .i64 S.pol,
 .slice (some ⟨E.rb,0,none⟩) 8192 8192,sv,ov,.int .i64 k,.int .u16 i]
structure Mq(E:Qe)(sv ov:Value)(S:Ms)(d:Nat)(k i:Int)(w:World):Prop where
 ok:S.Ok
 env:E.Ok
 bel:Below E.w0.heap.size E.w0 w
 blk:w.heap[E.b]? =some (.cells (mqA E S sv ov k i) 96 (0,0))
 ram:∃ A,w.heap[E.rb]? =some (.cells A 5 (0,0))∧A.size=8192∧∀ j,j < 8192→A[j]? =some (.int .u8 (S.ram j))
 st:Stq E.w0.heap.size w sv S.sp d S.stk
 out:Evs w ov S.out
 own:∀ g,rowOf ov=some g→E.w0.heap.size≤g
section
variable {E:Qe} {sv ov:Value} {S:Ms} {d:Nat} {k i:Int} {w:World}
theorem Mq.lt(h:Mq E sv ov S d k i w):E.b < w.heap.size:=lt_of_block h.blk
theorem Mq.at(h:Mq E sv ov S d k i w)(j:Nat)(v:Value)(hv:(mqA E S sv ov k i)[j]? =some v):w.cell? ⟨E.b,j,none⟩=some v:=ae h.blk j v hv
theorem Mq.frz(h:Mq E sv ov S d k i w)(j:Nat):w.frozen? ⟨E.b,j,none⟩=false:=frozen_of_row w E.b j _ _ h.blk
theorem Mq.cR(h:Mq E sv ov S d k i w)(j:Nat)(hj:j < 8):w.cell? ⟨E.b,7+j,none⟩=some (.int .u16 (S.r j)):=by
 refine h.at (7+j) _ ?_
 rcases(show j=0∨j=1∨j=2∨j=3∨j=4∨j=5∨j=6∨j=7 by omega) with rfl|rfl|rfl|rfl|rfl|rfl|rfl|rfl<;>rfl
theorem Mq.mY(h:Mq E sv ov S d k i w)(j:Nat)(hj:j < 8192):w.cell? ⟨E.rb,j,none⟩=some (.int .u8 (S.ram j)):=by
 obtain⟨A,h1,h2,h3⟩:=h.ram;exact ae h1 j _ (h3 j hj)
theorem Mq.brb(h:Mq E sv ov S d k i w):E.b≠E.rb:=fun e=>by
 obtain⟨A,h1,_⟩:=h.ram;have h2:=h.blk;rw[e,h1] at h2;simp at h2
theorem Mq.nst(h:Mq E sv ov S d k i w){g:Nat}(hg:sv.ownBlock=some g):g≠E.b∧g≠E.rb:=by
 obtain⟨_,A,hA⟩:=h.st.typ hg;obtain⟨B,h1,_⟩:=h.ram;have h2:=h.blk;exact⟨fun e=>by rw[e,h2] at hA;simp at hA,fun e=>by rw[e,h1] at hA;simp at hA⟩
theorem Mq.rD(h:Mq E sv ov S d k i w){g:Nat}(hg:rowOf ov=some g):g≠E.b∧g≠E.rb∧sv.ownBlock≠some g:=by
 obtain⟨A,hA⟩:=h.out.typ hg;obtain⟨B,h1,_⟩:=h.ram;have h2:=h.blk;refine⟨fun e=>by rw[e,h2] at hA;simp at hA,fun e=>by rw[e,h1] at hA;simp at hA,fun e=>?_⟩;obtain⟨_,C,hC⟩:=h.st.typ e;rw[hA] at hC;simp at hC
theorem Mq.kept{w':World}(h:Mq E sv ov S d k i w)(hb:Below w.heap.size w w'):Mq E sv ov S d k i w':=by
 obtain⟨A,h1,h2,h3⟩:=h.ram;exact⟨h.ok,h.env,h.bel.trans (hb.mono h.bel.size),af h.blk hb,⟨A,af h1 hb,h2,h3⟩,h.st.kept (below_grown hb) (fun g hg=>by simp),h.out.grown (below_grown hb) (by cases rowOf ov<;>simp),h.own⟩
theorem Mq.alloc(h:Mq E sv ov S d k i w)(o:Obj):Mq E sv ov S d k i (w.alloc o):=h.kept ((Below.refl _ _).alloc (Nat.le_refl _) o)
theorem Mq.drew(h:Mq E sv ov S d k i w):Mq E sv ov S d k i w.drew:=h.kept (Below.refl _ _).drew
theorem Below.lG{w0 w w':World}{g:Nat}(h:Below w0.heap.size w0 w)(hg:w.grownBy w' (some g))(h0:w0.heap.size≤g):Below w0.heap.size w0 w':=h.grown hg h.size (fun k hk=>by cases hk;exact h0)
theorem Mq.set{S':Ms}{k' i':Int}{sv' ov':Value}(h:Mq E sv ov S d k i w)(j:Nat)(v:Value)(hA:(mqA E S sv ov k i).setIfInBounds j v=mqA E S' sv' ov' k' i')(ok:S'.Ok)(hr:S'.ram=S.ram)
  (hs:Stq E.w0.heap.size w sv' S'.sp d S'.stk) (ho:Evs w ov' S'.out) (hw:∀ g,rowOf ov'=some g→E.w0.heap.size≤g):Mq E sv' ov' S' d k' i' (w.setCell ⟨E.b,j,none⟩ v):=by
 have hg:=grown_setCell w E.b j v;obtain⟨A,h1,h2,h3⟩:=h.ram;have hb:=h.blk;refine⟨ok,h.env,Below.lG h.bel hg h.env.b,?_,⟨A,(hg.block E.rb (lt_of_block h1) (fun e=>h.brb (by simpa using e.symm))).trans h1,h2,by rw[hr];exact h3⟩,hs.kept hg (fun g hgg e=>?_),ho.grown hg (Or.inr fun e=>?_),hw⟩
 ·rw[← hA];exact bP w E.b j v _ _ _ hb
 ·obtain⟨_,B,hB⟩:=hs.typ hgg
  cases e;rw[hb] at hB;simp at hB
 ·obtain⟨B,hB⟩:=ho.typ e
  rw[hb] at hB;simp at hB
theorem Mq.set1{S':Ms}{k' i':Int}(h:Mq E sv ov S d k i w)(j:Nat)(v:Value)(hA:(mqA E S sv ov k i).setIfInBounds j v=mqA E S' sv ov k' i')(ok:S'.Ok)(hr:S'.ram=S.ram)
  (hs:S'.stk=S.stk) (hp:S'.sp=S.sp) (ho:S'.out=S.out):Mq E sv ov S' d k' i' (w.setCell ⟨E.b,j,none⟩ v):=
 h.set j v hA ok hr (by rw[hs,hp];exact h.st) (by rw[ho];exact h.out) h.own
theorem Mq.aZ(h:Mq E sv ov S d k i w)(j:Nat)(hj:j < 8)(v:Int)(hv:U16 v):Mq E sv ov {S with r:=upd S.r j v} d k i (w.setCell ⟨E.b,7+j,none⟩ (.int .u16 v)):=by
 refine h.set1 (7+j) _ ?_ (h.ok.aZ j v hv) rfl rfl rfl rfl
 rcases(show j=0∨j=1∨j=2∨j=3∨j=4∨j=5∨j=6∨j=7 by omega) with rfl|rfl|rfl|rfl|rfl|rfl|rfl|rfl<;>rfl
theorem Mq.dF(h:Mq E sv ov S d k i w)(v:Int)(hv:U16 v):Mq E sv ov {S with pc:=v} d k i (w.setCell ⟨E.b,15,none⟩ (.int .u16 v)):=h.set1 15 _ rfl {h.ok with pc:=hv} rfl rfl rfl rfl
theorem Mq.kW(h:Mq E sv ov S d k i w)(v:Int)(hv:U16 v):Mq E sv ov {S with fp:=v} d k i (w.setCell ⟨E.b,17,none⟩ (.int .u16 v)):=h.set1 17 _ rfl {h.ok with fp:=hv} rfl rfl rfl rfl
theorem Mq.oL(h:Mq E sv ov S d k i w)(v:Int)(hv:U16 v):Mq E sv ov {S with f:=v} d k i (w.setCell ⟨E.b,18,none⟩ (.int .u16 v)):=h.set1 18 _ rfl {h.ok with f:=hv} rfl rfl rfl rfl
theorem Mq.fQ(h:Mq E sv ov S d k i w)(v:Int)(hv:I64 v):Mq E sv ov {S with aF:=v} d k i (w.setCell ⟨E.b,19,none⟩ (.int .i64 v)):=h.set1 19 _ rfl {h.ok with aF:=hv} rfl rfl rfl rfl
theorem Mq.lT(h:Mq E sv ov S d k i w)(v:Int)(hv:I64 v):Mq E sv ov {S with steps:=v} d k i (w.setCell ⟨E.b,20,none⟩ (.int .i64 v)):=h.set1 20 _ rfl {h.ok with steps:=hv} rfl rfl rfl rfl
theorem Mq.nJ(h:Mq E sv ov S d k i w)(v:Int)(hv:I64 v):Mq E sv ov {S with inp:=v} d k i (w.setCell ⟨E.b,21,none⟩ (.int .i64 v)):=h.set1 21 _ rfl {h.ok with inp:=hv} rfl rfl rfl rfl
theorem Mq.nI(h:Mq E sv ov S d k i w)(v:Int)(hv:I64 v):Mq E sv ov {S with pol:=v} d k i (w.setCell ⟨E.b,22,none⟩ (.int .i64 v)):=h.set1 22 _ rfl {h.ok with pol:=hv} rfl rfl rfl rfl
theorem Mq.jX(h:Mq E sv ov S d k i w)(j:Nat)(hj:j < 8192)(v:Int)(h0:0≤v)(h1:v < 256):Mq E sv ov {S with ram:=upd S.ram j v} d k i (w.setCell ⟨E.rb,j,none⟩ (.int .u8 v)):=by
 have hg:=grown_setCell w E.rb j (.int .u8 v);obtain⟨A,a1,a2,a3⟩:=h.ram;refine⟨{h.ok with ram:=jD (Q:=fun x=>0≤x∧x < 256) h.ok.ram ⟨h0,h1⟩},h.env,Below.lG h.bel hg h.env.rb,(hg.block E.b h.lt (fun e=>h.brb (by simpa using e))).trans h.blk,⟨_,bP w E.rb j _ _ _ _ a1,by simpa using a2,fun l hl=>?_⟩,h.st.kept hg (fun g hgg e=>?_),h.out.grown hg (Or.inr fun e=>?_),h.own⟩
 ·rw[Array.getElem?_setIfInBounds]
  by_cases e:j=l
  ·subst e;rw[if_pos rfl,if_pos (by omega)];show _=some (Value.int .u8 (upd S.ram j v j));rw[upd_same]
  ·rw[if_neg e,a3 l hl];show _=some (Value.int .u8 (upd S.ram j v l));rw[upd_ne _ _ (Ne.symm e)]
 ·exact(h.nst hgg).2 (by simpa using e)
 ·exact(h.rD e).2.1 rfl
theorem Mq.nH(h:Mq E sv ov S d k i w)(g c:Nat)(hv:sv= .slice (some ⟨g,0,none⟩) S.sp c)(j:Nat)(hj:j < S.sp)(v:Int)(hu:U16 v):Mq E sv ov {S with stk:=upd S.stk j v} d k i (w.setCell ⟨g,j,none⟩ (.int .u16 v)):=by
 have hg:=grown_setCell w g j (.int .u16 v);have ho:sv.ownBlock=some g:=by rw[hv];rfl
 have hn:=h.nst ho;obtain⟨A,a1,a2,a3⟩:=h.ram;have hj2:j < 4096:=by have:=h.ok.sp;omega
 refine⟨{h.ok with stk:=jD h.ok.stk hu},h.env,Below.lG h.bel hg (h.st.typ ho).1,(hg.block E.b h.lt (fun e=>hn.1 (by simpa using e.symm))).trans h.blk,⟨A,(hg.block E.rb (lt_of_block a1) (fun e=>hn.2 (by simpa using e.symm))).trans a1,a2,a3⟩,?_,h.out.grown hg (Or.inr fun e=>(h.rD e).2.2 ho),h.own⟩;rcases h.st with⟨hs,_⟩|⟨g',c',B,hs,hb,hB,hz,hn',hd,hc,hf⟩
 ·rw[hs] at hv;cases hv
 ·have hs2:=hs
  rw[hv] at hs2;simp only[Value.slice.injEq,Option.some.injEq,Addr.mk.injEq] at hs2;obtain⟨⟨rfl,_⟩,_,rfl⟩:=hs2;refine .inr ⟨g,c,B.setIfInBounds j (.int .u16 v),hs,hb,bP w g j _ _ _ _ hB,by simpa using hz,hn',hd,hc,fun l hl=>?_⟩;rw[Array.getElem?_setIfInBounds];by_cases e:j=l
  ·subst e;rw[if_pos rfl,if_pos (by show j < B.size;have:j < S.sp:=hj;omega)];show _=some (Value.int .u16 (upd S.stk j v j));rw[upd_same]
  ·rw[if_neg e,hf l hl];show _=some (Value.int .u16 (upd S.stk j v l));rw[upd_ne _ _ (Ne.symm e)]
end
def Mine(E:Qe)(sv ov:Value)(k:Nat):Prop:=k=E.b∨k=E.rb∨sv.ownBlock=some k∨rowOf ov=some k
structure Frq(E:Qe)(sv ov:Value)(w:World)(sv' ov':Value)(w':World):Prop where
 size:w.heap.size≤w'.heap.size
 blk:∀ k,k < w.heap.size→¬ Mine E sv ov k→w'.heap[k]? =w.heap[k]?
 new:∀ k,k < w.heap.size→Mine E sv' ov' k→Mine E sv ov k
theorem Frq.refl(E:Qe)(sv ov:Value)(w:World):Frq E sv ov w sv ov w:=⟨Nat.le_refl _,fun _ _ _=>rfl,fun _ _ h=>h⟩
theorem Frq.trans{E:Qe}{sv ov sv1 ov1 sv2 ov2:Value}{w w1 w2:World}(h:Frq E sv ov w sv1 ov1 w1)(g:Frq E sv1 ov1 w1 sv2 ov2 w2):Frq E sv ov w sv2 ov2 w2:=
 ⟨Nat.le_trans h.size g.size,fun k hk hn=>(g.blk k (Nat.lt_of_lt_of_le hk h.size) (fun c=>hn (h.new k hk c))).trans (h.blk k hk hn),fun k hk c=>h.new k hk (g.new k (Nat.lt_of_lt_of_le hk h.size) c)⟩
theorem Frq.below{E:Qe}{sv ov:Value}{w w':World}(hb:Below w.heap.size w w'):Frq E sv ov w sv ov w':=⟨hb.size,fun k hk _=>hb.block k hk,fun _ _ h=>h⟩
theorem Frq.grown{E:Qe}{sv ov:Value}{w w':World}{g:Nat}(hg:w.grownBy w' (some g))(hm:Mine E sv ov g):Frq E sv ov w sv ov w':=
 ⟨hg.size,fun k hk hn=>hg.block k hk (fun e=>hn (by cases e;exact hm)),fun _ _ h=>h⟩
theorem Frq.set{E:Qe}{sv ov sv' ov':Value}{w w':World}(h:Frq E sv ov w sv' ov' w')(j:Nat)(v:Value):Frq E sv ov w sv' ov' (w'.setCell ⟨E.b,j,none⟩ v):=h.trans (Frq.grown (grown_setCell w' E.b j v) (.inl rfl))
theorem Frq.drew{E:Qe}{sv ov sv' ov':Value}{w w':World}(h:Frq E sv ov w sv' ov' w'):Frq E sv ov w sv' ov' w'.drew:=h.trans (Frq.below (Below.refl _ _).drew)
theorem Frq.alloc{E:Qe}{sv ov sv' ov':Value}{w w':World}(h:Frq E sv ov w sv' ov' w')(o:Obj):Frq E sv ov w sv' ov' (w'.alloc o):=h.trans (Frq.below ((Below.refl _ _).alloc (Nat.le_refl _) o))
theorem Frq.lists{E:Qe}{sv ov sv' ov' sv2 ov2:Value}{w w':World}(h:Frq E sv ov w sv' ov' w')(hn:∀ k,k < w.heap.size→Mine E sv2 ov2 k→Mine E sv ov k):Frq E sv ov w sv2 ov2 w':=⟨h.size,h.blk,hn⟩
theorem Mq.other{E:Qe}{sv ov:Value}{S:Ms}{d:Nat}{k i:Int}{w:World}{g:Nat}{A:Array Value}{t:TypeId}(h:Mq E sv ov S d k i w)(hg:w.heap[g]? =some (.cells A t (0,0)))(h1:t≠96)(h2:t≠5)(h3:t≠29)(h4:t≠81):¬ Mine E sv ov g:=by
 rintro (rfl|rfl|e|e)
 ·have:=h.blk;rw[hg] at this;simp at this;exact h1 this.2
 ·obtain⟨B,hB,_⟩:=h.ram;rw[hg] at hB;simp at hB;exact h2 hB.2
 ·obtain⟨_,B,hB⟩:=h.st.typ e;rw[hg] at hB;simp at hB;exact h3 hB.2
 ·obtain⟨B,hB⟩:=h.out.typ e;rw[hg] at hB;simp at hB;exact h4 hB.2
theorem Frq.keep{E:Qe}{sv ov sv' ov':Value}{S:Ms}{d:Nat}{k i:Int}{w w':World}{g:Nat}{A:Array Value}{t:TypeId}(f:Frq E sv ov w sv' ov' w')(h:Mq E sv ov S d k i w)(hg:w.heap[g]? =some (.cells A t (0,0)))(h1:t≠96:=by decide)(h2:t≠5:=by decide)(h3:t≠29:=by decide)(h4:t≠81:=by decide):w'.heap[g]? =some (.cells A t (0,0)):=
 (f.blk g (lt_of_block hg) (h.other hg h1 h2 h3 h4)).trans hg
theorem Ff{P:Program}(w:World)(t ty e:TypeId)(i:TypeInfo)(z:Value)(size bytes base:Nat)(ht:P.underlying t=some (.slice e))(hi:P.info? e=some i)(hz:i.zero=some z)(hsize:i.size=size)(hby:i.bytes=bytes)(hzs:z.cells.size=size)(hsz:0 < size)
  (v:Value) (n:Nat) (xs:List Value) (hown:w.ownsRow base e size v n xs) (p:Option Addr) (m c:Nat) (cs:List Value) (hl:cs.length=m*size) (hsl:Sl w p cs) (h1:∀ u∈cs,u.oneCell'=true)
  (h63:n+m≤maxLen) (hbytes:(n+m)*bytes≤140737488355328) (hbase:base≤w.heap.size):
  ∃ v' w',(Builtin.append_ #[t,t] ty #[v,.slice p m c]).run P w= .ok v' w'∧w'.ownsRow base e size v' (n+m) (xs++cs)∧w.grownBy w' v.ownBlock:=by
 cases p with
 | none=>
  have hcs:cs=[]:=by
   cases cs with
   | nil=>rfl
   | cons y r=>obtain⟨_,hp,_⟩:=hsl 0 y rfl;simp at hp
  subst hcs;have hm:m=0:=by
   rcases Nat.mul_eq_zero.1 (show m*size=0 by rw[← hl];rfl) with h|h
   ·exact h
   ·omega
  subst hm;refine⟨v,w,?_,by rw[List.append_nil];exact hown,⟨rfl,rfl,rfl,Nat.le_refl _,fun _ _ _=>rfl⟩⟩;rcases hown.2 with⟨rfl,rfl⟩|⟨g,cap,cur,rfl,_,_,hn,_⟩
  ·simp[Builtin.append_,run_underlying ht,sizeOf,typeInfo,hi,Builtin.lenOf,Builtin.firstCells,storeCells]
  ·simp[Builtin.append_,run_underlying ht,sizeOf,typeInfo,hi,Builtin.lenOf,Builtin.firstCells,storeCells,hn]
 | some ad=>
  obtain⟨v',w',h1',h2,h3,_⟩:=run_append_own w base t ty e i z size bytes ht hi hz hsize hby hzs hsz v n xs hown ad m c cs hl (fun j u hu=>by
   obtain⟨g',hp,hc⟩:=hsl j u hu;injection hp with hp;subst hp;have hadd:(⟨g',0,none⟩:Addr).add j=⟨g',j,none⟩:=by unfold Addr.add;split<;>simp_all
   rw[hadd];exact hc) h1 h63 hbytes hbase
  exact⟨v',w',h1',h2,h3⟩
theorem jU{P:Program}(w:World){o:Oper}{a:Act}{K:Act→World→Prop}{Q:Exit→Act→World→Prop}(s x:Operand)(t:TypeId)
  (ho:o.op= .call {callee:= .builtin .append,args:=#[s,x],argTypes:=#[t,t]})
  (e:TypeId) (i:TypeInfo) (z:Value) (size bytes base:Nat) (ht:P.underlying t=some (.slice e)) (hi:P.info? e=some i) (hz:i.zero=some z) (hsize:i.size=size) (hby:i.bytes=bytes) (hzs:z.cells.size=size) (hsz:0 < size)
  (v:Value) (n:Nat) (xs:List Value) (hs:a.eval s=v) (hown:w.ownsRow base e size v n xs) (p:Option Addr) (m c:Nat) (cs:List Value) (hx:a.eval x= .slice p m c) (hl:cs.length=m*size) (hsl:Sl w p cs) (h1:∀ u∈cs,u.oneCell'=true)
  (h63:n+m≤maxLen) (hbytes:(n+m)*bytes≤140737488355328) (hbase:base≤w.heap.size)
  (h:∀ v' w',w'.ownsRow base e size v' (n+m) (xs++cs)→w.grownBy w' v.ownBlock→K (a.put o.dst v') w'):o.wp P a w K Q:=by
 obtain⟨v',w',hr,h2,h3⟩:=Ff (P:=P) w t o.type e i z size bytes base ht hi hz hsize hby hzs hsz v n xs hown p m c cs hl hsl h1 h63 hbytes hbase;unfold Oper.wp execOp;simp only[ho,resolve,invoke,builtin,Sem.run_bind,Sem.run_pure,Result.andThen_ok,List.map_toArray,List.map_cons,List.map_nil,hs,hx,hr];exact h v' w' h2 h3
end Go.Proofs.YthkcloapiefggaaGreatDoor
