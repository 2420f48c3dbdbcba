import Derived.Test.YthkcloapiefggaaGreatDoorQRma
import Derived.Test.YthkcloapiefggaaGreatDoorQEvx
namespace Go.Proofs.YthkcloapiefggaaGreatDoor
set_option linter.unusedVariables false
set_option linter.unusedSimpArgs false
set_option maxRecDepth 100000
set_option maxHeartbeats 1000000
open Go.ChangeShapes Go.WideShapes Go.RowKit
theorem iI:(Tryz.prog.info? 36).map (·.size)=some 16:=by kernel_rfl
structure LdE(w:World)(P:Pl)(I:Im)(pi:Option Addr)(ci:Nat)(pq:Option Addr)(cq:Nat)(T:Tp)(X:Sn)(e:Ending)(w':World):Prop where
 ex:∃ E sv ov,e= .returned (.pointer (some ⟨E.b,0,none⟩))∧E.w0=w∧E.P=P∧E.I=I∧E.pi=pi∧E.ci=ci∧E.pq=pq∧E.cq=cq∧E.T=T∧E.q=((aQ X).sp:Int)∧Mq E sv ov (aQ X) 0 0 0 w'
theorem uN{w:World}{B N n:Nat}(hown:w.ownsRow N 5 1 (.slice (some ⟨B,0,none⟩) n n) n (madeCells (Value.int IntKind.u8 0).cells (n*1)).toList):w.heap[B]? =some (.cells (List.replicate n (Value.int .u8 0)).toArray 5 (0,0)):=by
 rcases hown.2 with⟨hv,_⟩|⟨g,cap,cur,hv,hN,hb',hc,hc2,hc3,hc4⟩
 ·simp at hv
 ·simp only[Value.slice.injEq,Option.some.injEq,Addr.mk.injEq] at hv
  obtain⟨⟨rfl,_⟩,_,rfl⟩:=hv;have e1:cur.toList=(madeCells (Value.int IntKind.u8 0).cells (n*1)).toList:=by rw[← hc4,List.take_of_length_le (by simp[hc3])]
  rw[hb'];have e2:cur.toList=List.replicate n (Value.int .u8 0):=by
   rw[e1];apply List.ext_getElem?;intro j;by_cases hj:j < n
   ·rw[← Array.getElem?_toList.symm,qx _ _ _ rfl (by omega)];simp[hj]
   ·rw[List.getElem?_eq_none (by simp[madeCells];omega),List.getElem?_eq_none (by simp;omega)]
  rw[← e2]

theorem DI{xs ys:List Int}{n:Nat}(hx:xs.length=n)(hy:ys.length=n):(∀ i∈List.range' 0 n 1,xs.getD i 0=ys.getD i 0)↔xs=ys:=by
 constructor
 ·intro h
  refine List.ext_getElem (hx.trans hy.symm) fun j h1 h2=>?_
  have:=h j (by simp;omega);simpa [List.getD,h1,h2] using this
 ·rintro rfl _ _;rfl
theorem Ah(w:World)(t e:TypeId)(k:IntKind)(n d:Nat)(ht:Tryz.prog.underlying t=some (.array n e))(he:Tryz.prog.underlying e=some (.int k))(hi:(Tryz.prog.info? e).map (·.size)=some 1)
  (xs ys:List Int) (hx:xs.length=n) (hy:ys.length=n):
  (Op.equalIn (d+2) t (.agg (xs.map (Value.int k)).toArray) (.agg (ys.map (Value.int k)).toArray)).run Tryz.prog w= .ok (decide (xs=ys)) w:=by
 obtain⟨i,hi',hi1⟩:∃ i,Tryz.prog.info? e=some i∧i.size=1:=by
  cases h:Tryz.prog.info? e with
  | none=>rw[h] at hi;simp at hi
  | some i=>rw[h] at hi;exact⟨i,rfl,by simpa using hi⟩
 have hsz:∀ w,(sizeOf e).run Tryz.prog w= .ok 1 w:=fun w=>by simp[sizeOf,typeInfo,hi',hi1]
 rw[Op.equalIn];simp only[Sem.run_bind,run_underlying ht,Result.andThen_ok,hsz,Std.Legacy.Range.forIn_eq_forIn_range',Std.Legacy.Range.size,Nat.sub_zero,Nat.add_sub_cancel,Nat.div_one];have hd:decide (xs=ys)=(List.range' 0 n 1).all fun i=>xs.getD i 0==ys.getD i 0:=by
  rw[Bool.eq_iff_iff];simp only[List.all_eq_true,beq_iff_eq,decide_eq_true_eq];exact(DI hx hy).symm
 rw[hd];have hl:∀ i∈List.range' 0 n 1,i < n:=fun i hi=>by simpa using(List.mem_range'_1.1 hi).2
 clear hd;generalize List.range' 0 n 1=l at hl⊢
 induction l with
 | nil=>simp
 | cons i l ih=>
  have hi:i < n:=hl i (by simp);have px:(Go.part e (xs.map (Value.int k)).toArray (i*1)).run Tryz.prog w= .ok (.int k (xs.getD i 0)) w:=by
   simp[Go.part,isAgg,run_underlying he,List.getD,List.getElem?_eq_getElem (show i < xs.length by omega)]
  have py:(Go.part e (ys.map (Value.int k)).toArray (i*1)).run Tryz.prog w= .ok (.int k (ys.getD i 0)) w:=by
   simp[Go.part,isAgg,run_underlying he,List.getD,List.getElem?_eq_getElem (show i < ys.length by omega)]
  have ih':=ih fun j hj=>hl j (by simp[hj])
  simp only[List.forIn_cons,Sem.run_bind,px,py,Result.andThen_ok,run_equalIn_int w d e k k _ _ he,List.all_cons];by_cases h:xs.getD i 0=ys.getD i 0
  ·simp only[h,beq_self_eq_true,Bool.not_true,Bool.false_eq_true,if_false,if_true,Sem.run_pure,Result.andThen_ok,Bool.true_and]
   exact ih'
  ·have h2:(xs.getD i 0==ys.getD i 0)=false:=by simpa using h
   simp only[h2,Bool.not_false,Bool.false_and,if_true,Sem.run_pure,Result.andThen_ok]
def stI(X:Sn):List Int:=[X.r 0,X.r 1,X.r 2,X.r 3,X.r 4,X.r 5,X.r 6,X.r 7,X.pc,X.sp,X.fp,X.f,X.aF,X.steps,X.inp,X.pol]
theorem Ae:(Tryz.prog.fieldsOf 36).toList.map (fun f=>(f.name == "_",f.type,f.offset))=[(false,34,0),(false,29,8),(false,29,9),(false,29,10),(false,29,11),(false,3,12),(false,3,13),(false,3,14),(false,3,15)]:=by kernel_rfl
theorem uD (P:Program) (w:World) (d:Nat) (xs ys:Array Value) (f:Field) (fs:List Field) (a b:Value) (q:Bool) (hn:(f.name == "_")=false)
  (hx:(Go.part f.type xs f.offset).run P w= .ok a w) (hy:(Go.part f.type ys f.offset).run P w= .ok b w) (he:(Op.equalIn d f.type a b).run P w= .ok q w):
  (Op.eqFields d xs ys (f::fs)).run P w=if q=true then(Op.eqFields d xs ys fs).run P w else .ok false w:=by
 have hn':f.name≠ "_" :=by simpa using hn
 simp only[Op.eqFields,hn',ne_eq,not_false_eq_true,if_true,Sem.run_bind,hx,hy,Result.andThen_ok,he];cases q
 ·simp[Sem.run_pure]
 ·simp
theorem nine{α:Type}{l:List α}(h:l.length=9):∃ a b c d e f g i j,l=[a,b,c,d,e,f,g,i,j]:=by
 match l,h with
 | [a,b,c,d,e,f,g,i,j],_=>exact⟨a,b,c,d,e,f,g,i,j,rfl⟩
theorem DX(X Y:Sn)(w:World):(Op.equalIn 10000 36 (.agg (stX X).toArray) (.agg (stX Y).toArray)).run Tryz.prog w= .ok (decide (stI X=stI Y)) w:=by
 rw[run_equalIn_struct w 9999 36 _ _ (by kernel_rfl) (by kernel_rfl)];have h:=Ae;obtain⟨f0,f1,f2,f3,f4,f5,f6,f7,f8,hf⟩:=nine (l:=(Tryz.prog.fieldsOf 36).toList) (by have h':=congrArg List.length h;simpa using h');rw[hf] at h⊢;simp only[List.map_cons,List.map_nil,List.cons.injEq,Prod.mk.injEq,and_true] at h;obtain⟨⟨n0,t0,o0⟩,⟨n1,t1,o1⟩,⟨n2,t2,o2⟩,⟨n3,t3,o3⟩,⟨n4,t4,o4⟩,⟨n5,t5,o5⟩,⟨n6,t6,o6⟩,⟨n7,t7,o7⟩,⟨n8,t8,o8⟩⟩:=h;have ha:=Ah w 34 29 .u16 8 9997 Tryz.underlying34 Tryz.underlying29 (by kernel_rfl) [X.r 0,X.r 1,X.r 2,X.r 3,X.r 4,X.r 5,X.r 6,X.r 7] [Y.r 0,Y.r 1,Y.r 2,Y.r 3,Y.r 4,Y.r 5,Y.r 6,Y.r 7] rfl rfl;rw[uD Tryz.prog w 9999 _ _ f0 _ _ _ _ n0 (by rw[t0,o0];kernel_rfl) (by rw[t0,o0];kernel_rfl) (by rw[t0];exact ha),
  cu Tryz.prog w 9998 _ _ f1 _ .u16 X.pc Y.pc n1 (by rw[t1];exact Tryz.underlying29) (by rw[t1,o1];kernel_rfl) (by rw[t1,o1];kernel_rfl),
  cu Tryz.prog w 9998 _ _ f2 _ .u16 X.sp Y.sp n2 (by rw[t2];exact Tryz.underlying29) (by rw[t2,o2];kernel_rfl) (by rw[t2,o2];kernel_rfl),
  cu Tryz.prog w 9998 _ _ f3 _ .u16 X.fp Y.fp n3 (by rw[t3];exact Tryz.underlying29) (by rw[t3,o3];kernel_rfl) (by rw[t3,o3];kernel_rfl),
  cu Tryz.prog w 9998 _ _ f4 _ .u16 X.f Y.f n4 (by rw[t4];exact Tryz.underlying29) (by rw[t4,o4];kernel_rfl) (by rw[t4,o4];kernel_rfl),
  cu Tryz.prog w 9998 _ _ f5 _ .i64 X.aF Y.aF n5 (by rw[t5];exact Tryz.underlying3) (by rw[t5,o5];kernel_rfl) (by rw[t5,o5];kernel_rfl),
  cu Tryz.prog w 9998 _ _ f6 _ .i64 X.steps Y.steps n6 (by rw[t6];exact Tryz.underlying3) (by rw[t6,o6];kernel_rfl) (by rw[t6,o6];kernel_rfl),
  cu Tryz.prog w 9998 _ _ f7 _ .i64 X.inp Y.inp n7 (by rw[t7];exact Tryz.underlying3) (by rw[t7,o7];kernel_rfl) (by rw[t7,o7];kernel_rfl),
  cu Tryz.prog w 9998 _ _ f8 _ .i64 X.pol Y.pol n8 (by rw[t8];exact Tryz.underlying3) (by rw[t8,o8];kernel_rfl) (by rw[t8,o8];kernel_rfl)]
 have e:(stI X=stI Y)↔([X.r 0,X.r 1,X.r 2,X.r 3,X.r 4,X.r 5,X.r 6,X.r 7]=[Y.r 0,Y.r 1,Y.r 2,Y.r 3,Y.r 4,Y.r 5,Y.r 6,Y.r 7]∧X.pc=Y.pc∧X.sp=Y.sp∧X.fp=Y.fp∧X.f=Y.f∧X.aF=Y.aF∧X.steps=Y.steps∧X.inp=Y.inp∧X.pol=Y.pol):=by
  unfold stI;simp only[List.cons.injEq,and_true,and_assoc]
 by_cases hE:stI X=stI Y
 ·obtain⟨hA,h1,h2,h3,h4,h5,h6,h7,h8⟩:=e.1 hE
  rw[decide_eq_true hE,decide_eq_true hA,if_pos rfl,if_pos h1,if_pos h2,if_pos h3,if_pos h4,if_pos h5,if_pos h6,if_pos h7,if_pos h8];simp[Op.eqFields,Sem.run_pure]
 ·have hn:=mt e.2 hE
  rw[decide_eq_false hE];by_cases hA:([X.r 0,X.r 1,X.r 2,X.r 3,X.r 4,X.r 5,X.r 6,X.r 7]=[Y.r 0,Y.r 1,Y.r 2,Y.r 3,Y.r 4,Y.r 5,Y.r 6,Y.r 7])
  ·rw[decide_eq_true hA,if_pos rfl]
   (repeat' split)<;>first | rfl | exact absurd ⟨hA,by assumption,by assumption,by assumption,by assumption,by assumption,by assumption,by assumption,by assumption⟩ hn
  ·rw[decide_eq_false hA,if_neg (by simp)]
theorem IW(X Y:Sn)(w:World):(binOp .neq 36 (.agg (stX X).toArray) (.agg (stX Y).toArray)).run Tryz.prog w= .ok (.bool (!decide (stI X=stI Y))) w:=by
 rw[run_neq_struct,DX];rfl

structure Tr(W V:World)(o8 o9:Option Nat):Prop where
 bel:Below W.heap.size W V
 h8:∀ a,o8=some a→W.heap.size≤a∧V.heap[a]? =some (.cells zS 40 (0,0))
 h9:∀ a,o9=some a→W.heap.size≤a∧V.heap[a]? =some (.cells #[.int .i64 0,.int .u16 0] 47 (0,0))
theorem Tr.start(W:World):Tr W W.drew none none:=⟨(Below.refl _ _).drew,fun a h=>(by cases h),fun a h=>(by cases h)⟩
theorem Tr.next{W V U:World}{o8 o9:Option Nat}(h:Tr W V o8 o9)(hb:Below V.heap.size V U):Tr W U o8 o9:=
 ⟨h.bel.trans (hb.mono h.bel.size),fun a ha=>⟨(h.h8 a ha).1,af (h.h8 a ha).2 hb⟩,fun a ha=>⟨(h.h9 a ha).1,af (h.h9 a ha).2 hb⟩⟩
theorem Tr.a8{W V:World}{o9:Option Nat}(h:Tr W V none o9):Tr W (V.alloc (.cells zS 40)) (some V.heap.size) o9:=by
 have g:=h.next ((Below.refl _ V).alloc (Nat.le_refl _) (.cells zS 40));exact⟨g.bel,fun a ha=>by cases ha;exact⟨h.bel.size,heap_alloc_new V _⟩,g.h9⟩
theorem Tr.a9{W V:World}{o8:Option Nat}(h:Tr W V o8 none):Tr W (V.alloc (.cells #[.int .i64 0,.int .u16 0] 47)) o8 (some V.heap.size):=by
 have g:=h.next ((Below.refl _ V).alloc (Nat.le_refl _) (.cells #[.int .i64 0,.int .u16 0] 47));exact⟨g.bel,g.h8,fun a ha=>by cases ha;exact⟨h.bel.size,heap_alloc_new V _⟩⟩
structure fZ(W:World)(Y:Sn)(k i:Int)(a b:Nat)(p:Option Addr)(c:Nat)(q:Option Addr)(d:Nat)(V:World):Prop where
 snap:V.heap[a]? =some (.cells (snA Y p c q d) 40 (0,0))
 trap:V.heap[b]? =some (.cells #[.int .i64 k,.int .u16 i] 47 (0,0))
 lists:SnH V Y p q
 bel:Below W.heap.size W V
 ga:W.heap.size≤a
 gb:W.heap.size≤b
theorem fZ.next{W:World}{Y:Sn}{k i:Int}{a b c d:Nat}{p q:Option Addr}{V U:World}(h:fZ W Y k i a b p c q d V)(hb:Below V.heap.size V U):fZ W Y k i a b p c q d U:=
 ⟨af h.snap hb,af h.trap hb,h.lists.below hb,h.bel.trans (hb.mono h.bel.size),h.ga,h.gb⟩
theorem Tr.fin{W V:World}{a b:Nat}(h:Tr W V (some a) (some b)){Y:Sn}{p q:Option Addr}(hs:SnH V Y p q)(c d:Nat)(k i:Int):
  fZ W Y k i a b p c q d ((V.setRow a (snA Y p c q d)).setRow b #[.int .i64 k,.int .u16 i])∧(V.setRow a (snA Y p c q d)).heap[b]? =some (.cells #[.int .i64 0,.int .u16 0] 47 (0,0)):=by
 obtain⟨g8,e8⟩:=h.h8 a rfl;obtain⟨g9,e9⟩:=h.h9 b rfl;have hne:a≠b:=fun e=>by
  rw[e,e9] at e8;injection e8 with e8;injection e8 with _ e8;exact absurd e8 (by decide)
 have f8:=setRow_heap V a _ (snA Y p c q d) _ _ e8;have f9:(V.setRow a (snA Y p c q d)).heap[b]? =_:=(setRow_other V a _ _ (Ne.symm hne)).trans e9;exact⟨⟨(setRow_other _ _ _ _ hne).trans f8,setRow_heap _ _ _ _ _ _ f9,(hs.jf e8 (by decide) (by decide) _).jf f9 (by decide) (by decide) _,below_setRow (below_setRow h.bel g8 _) g9 _,g8,g9⟩,f9⟩
theorem fP{ops:Array Oper}{Q:Exit→Act→World→Prop}{S:World→Prop}{fuel:Nat}{listed:Array Bool}{a:Act}{W V:World}{o1 o2:Oper}{x1 y1 x2 y2:Operand}(i1 i2:Nat){A B:Nat}{Y:Sn}{p q:Option Addr}{c d:Nat}{k i:Int}
  (hT:Tr W V (some A) (some B)) (hs:SnH V Y p q) (hS:∀ U,Below W.heap.size W U→S U)
  (h1:ops[i1]? =some o1) (h2:ops[i2]? =some o2) (e1:o1.op= .store 40 x1 y1) (e2:o2.op= .store 47 x2 y2) (d1:o1.dst=none) (d2:o2.dst=none) (w1:Region.wanted o1 (yielded ops a.tmps)=true) (w2:Region.wanted o2 (yielded ops a.tmps)=true)
  (g1:a.eval x1= .pointer (some ⟨A,0,none⟩)) (v1:a.eval y1= .agg (snA Y p c q d)) (g2:a.eval x2= .pointer (some ⟨B,0,none⟩)) (v2:a.eval y2= .agg #[.int .i64 k,.int .u16 i])
  (r1:Region.ready .any ops listed=[i1]) (r2:Region.ready .any ops (listed.setIfInBounds i1 true)=[i2]) (r3:Region.ready .any ops ((listed.setIfInBounds i1 true).setIfInBounds i2 true)=[])
  (hQ:fZ W Y k i A B p c q d ((V.setRow A (snA Y p c q d)).setRow B #[.int .i64 k,.int .u16 i])→Q .normal a ((V.setRow A (snA Y p c q d)).setRow B #[.int .i64 k,.int .u16 i])):wpAnyH Tryz.prog .any ops Q S (fuel+2) listed a V:=by
 obtain⟨hR,hb9⟩:=hT.fin hs c d k i;have g8:=hT.h8 A rfl;refine wpAnyH_ready r1 (by simp) (AllReadyH.cons h1 (fun K hK=>?_) AllReadyH.nil);rw[if_pos w1];refine wp_store_row 40 x1 y1 e1 A (snA Y p c q d) g1 v1 40 _ g8.2 aU (by rfl) (by simp[snA,Value.oneCell']) ?_;refine hK.out _ _ (hS _ (below_setRow hT.bel g8.1 _)) (fun _=>?_);have p1:∀ v,a.put o1.dst v=a:=fun v=>by rw[d1];rfl
 refine wpAnyH_ready r2 (by simp) (AllReadyH.cons h2 (fun K hK=>?_) AllReadyH.nil);rw[p1,if_pos w2];refine wp_store_row 47 x2 y2 e2 B #[.int .i64 k,.int .u16 i] g2 v2 47 _ hb9 dV (by rfl) (by simp[Value.oneCell']) ?_;have p2:∀ v,a.put o2.dst v=a:=fun v=>by rw[d2];rfl
 refine hK.out _ _ (hS _ hR.bel) (fun _=>?_);rw[p2];exact wpAnyH_done r3 (hQ hR) _
structure jT(X:Sn)(a:Nat)(p:Option Addr)(c:Nat)(q:Option Addr)(d:Nat)(V:World):Prop where
 box:V.heap[a]? =some (.cells (snA X p c q d) 40 (0,0))
 lists:SnH V X p q
theorem jT.next{X:Sn}{a c d:Nat}{p q:Option Addr}{V U:World}(h:jT X a p c q d V)(hb:Below V.heap.size V U):jT X a p c q d U:=⟨af h.box hb,h.lists.below hb⟩
theorem jT.at{X:Sn}{a c d:Nat}{p q:Option Addr}{V:World}(h:jT X a p c q d V)(j:Nat)(v:Value)(hv:(snA X p c q d)[j]? =some v):V.cell? ⟨a,j,none⟩=some v:=ae h.box j v hv
theorem jT.frz{X:Sn}{a c d:Nat}{p q:Option Addr}{V:World}(h:jT X a p c q d V)(j:Nat):V.frozen? ⟨a,j,none⟩=false:=frozen_of_row V a j _ _ h.box
theorem jT.lt{X:Sn}{a c d:Nat}{p q:Option Addr}{V:World}(h:jT X a p c q d V):a < V.heap.size:=lt_of_block h.box
theorem jT.range{X:Sn}{a c d:Nat}{p q:Option Addr}{V:World}(h:jT X a p c q d V):V.rangeAt a 0 (snL X p c q d):=aH h.box _ (fun j v hv=>by rw[← hv];simp[snL,snA])
theorem jT.new{X:Sn}{c d:Nat}{p q:Option Addr}{V:World}(h:SnH V X p q)(Z:Array Value):jT X V.heap.size p c q d ((V.alloc (.cells Z 40)).setRow V.heap.size (snA X p c q d)):=
 ⟨setRow_heap _ _ _ _ _ _ (heap_alloc_new V _),(h.below ((Below.refl _ _).alloc (Nat.le_refl _) _)).jf (heap_alloc_new V _) (by decide) (by decide) _⟩
theorem jT.set{X X':Sn}{a c d:Nat}{p q:Option Addr}{V:World}(h:jT X a p c q d V)(j:Nat)(v:Value)(h1:(snA X p c q d).setIfInBounds j v=snA X' p c q d)(h2:X'.stk=X.stk)(h3:X'.out=X.out):
  jT X' a p c q d (V.setCell ⟨a,j,none⟩ v):=by
 have e:=setCell_eq_setRow V a j _ _ _ v h.box;rw[e,h1];have g:=h.lists.jf h.box (by decide) (by decide) (snA X' p c q d);exact⟨setRow_heap _ _ _ _ _ _ h.box,⟨h2▸g.stk,h3▸g.out,g.ts,g.te⟩⟩
theorem fZ.new{W V:World}{Y:Sn}{k i:Int}{c d:Nat}{p q:Option Addr}(hb:Below W.heap.size W V)(h:SnH V Y p q)(Z:Array Value)(z0 z1:Value):
  fZ W Y k i V.heap.size (V.heap.size+1) p c q d ((((V.alloc (.cells Z 40)).alloc (.cells #[z0,z1] 47)).setRow V.heap.size (snA Y p c q d)).setRow (V.heap.size+1) #[.int .i64 k,.int .u16 i]):=by
 have e1:=aj _ (.cells #[z0,z1] 47) _ (heap_alloc_new V (.cells Z 40));have e2:=heap_alloc_new (V.alloc (.cells Z 40)) (.cells #[z0,z1] 47);rw[World.size_alloc] at e2;have b2:Below V.heap.size V ((V.alloc (.cells Z 40)).alloc (.cells #[z0,z1] 47)):=((Below.refl _ V).alloc (Nat.le_refl _) _).alloc (by simp) _;have f1:=setRow_heap _ V.heap.size _ (snA Y p c q d) _ _ e1;have f2:(((V.alloc (.cells Z 40)).alloc (.cells #[z0,z1] 47)).setRow V.heap.size (snA Y p c q d)).heap[V.heap.size+1]? =_:=(setRow_other _ _ _ _ (by omega)).trans e2;exact⟨(setRow_other _ _ _ _ (by omega)).trans f1,setRow_heap _ _ _ _ _ _ f2,((h.below b2).jf e1 (by decide) (by decide) _).jf f2 (by decide) (by decide) _,below_setRow (below_setRow (hb.trans (b2.mono hb.size)) hb.size _) (by have:=hb.size;omega) _,hb.size,by have:=hb.size;omega⟩
theorem fZ.at{W V:World}{Y:Sn}{k i:Int}{a b c d:Nat}{p q:Option Addr}(h:fZ W Y k i a b p c q d V)(j:Nat)(v:Value)(hv:(snA Y p c q d)[j]? =some v):V.cell? ⟨a,j,none⟩=some v:=ae h.snap j v hv

def nrm(X:Sn):Sn:=au (aQ X)
def pU(X Y:Sn):Prop:=stI (nrm X)=stI (nrm Y)∧(nrm X).ram=(nrm Y).ram∧(nrm X).stk=(nrm Y).stk∧(nrm X).out=(nrm Y).out
def P0:Pl:=⟨none,0,none,0,none,0⟩
def I0:Im:=⟨[],0,0,[],[]⟩
def T0:Tp:=⟨[],[]⟩
theorem H8:I0.Ok:=⟨Int.le_refl 0,(show(0:Int) < 65536 by decide),Int.le_refl 0,(show(0:Int) < 65536 by decide),by simp[I0],by simp[I0],by simp[I0],(show 0≤1000000000 by decide),Nat.zero_le _,Nat.zero_le _⟩
theorem H6:T0.Ok:=⟨by simp[T0],by simp[T0],by simp[T0],by simp[T0]⟩
theorem KH(w:World):Has w P0 I0:=⟨Sl.nil _ _,Sl.nil _ _,Sl.nil _ _⟩
theorem Au:Tryz.prog.built 33 []=some #[.slice none 0 0,.int .u16 0,.int .u16 0,.slice none 0 0,.slice none 0 0]:=by kernel_rfl
theorem Ar:Tryz.prog.built 43 []=some #[.slice none 0 0,.slice none 0 0]:=by kernel_rfl
end Go.Proofs.YthkcloapiefggaaGreatDoor
