import Derived.Test.YthkcloapiefggaaGreatDoorQOut
import Derived.WalkSpells
import Derived.Test.YthkcloapiefggaaGreatDoorQRnn
namespace Go.Proofs.YthkcloapiefggaaGreatDoor
set_option linter.unusedVariables false
set_option linter.unusedSimpArgs false
set_option maxRecDepth 100000
set_option maxHeartbeats 1000000
open Go.ChangeShapes Go.WideShapes Go.RowKit
theorem oM{P:Program}(w:World)(t ty e:TypeId)(i:TypeInfo)(ht:P.underlying t=some (.slice e))(hi:P.info? e=some i)(g cap c:Nat):
  (Builtin.append_ #[t,t] ty #[.slice (some ⟨g,0,none⟩) 0 cap,.slice none 0 c]).run P w= .ok (.slice (some ⟨g,0,none⟩) 0 cap) w:=by
 simp[Builtin.append_,run_underlying ht,sizeOf,typeInfo,hi,Builtin.lenOf,Builtin.firstCells,storeCells]
theorem uQ{P:Program}(w:World){ops:Array Oper}{rest:List Oper}{o:Oper}{a:Act}{Q:Exit→Act→World→Prop}(hgd:o.guard=none)(s x:Operand)(t:TypeId)
  (ho:o.op= .call {callee:= .builtin .append,args:=#[s,x],argTypes:=#[t,t]})
  (base:Nat) (e:TypeId) (i:TypeInfo) (z:Value) (size bytes:Nat) (ht:P.underlying t=some (.slice e)) (hi:P.info? e=some i) (hz:i.zero=some z)
  (hsize:i.size=size) (hby:i.bytes=bytes) (hzs:z.cells.size=size) (hsz:0 < size)
  (g cap:Nat) (hs:a.eval s= .slice (some ⟨g,0,none⟩) 0 cap) (hown:w.ownsRow base e size (.slice (some ⟨g,0,none⟩) 0 cap) 0 [])
  (p:Option Addr) (m c:Nat) (cs:List Value) (hx:a.eval x= .slice p m c) (hl:cs.length=m*size) (hsl:Sl w p cs) (h1:∀ u∈cs,u.oneCell'=true)
  (h63:m≤maxLen) (hbytes:m*bytes≤140737488355328) (hbase:base≤w.heap.size)
  (h:∀ v' w',w'.ownsRow base e size v' m cs→w.grownBy w' (some g)→wpList P ops Q rest (a.put o.dst v') w'):wpList P ops Q (o::rest) a w:=by
 cases p with
 | none=>
  have hcs:cs=[]:=by
   cases cs with
   | nil=>rfl
   | cons y r=>obtain⟨_,hp,_⟩:=hsl 0 y rfl;simp at hp
  subst hcs;have hm:m=0:=by
   rcases Nat.mul_eq_zero.1 (show m*size=0 by rw[← hl];rfl) with h|h
   ·exact h
   ·omega
  subst hm;refine wpList_plain hgd fun K hK=>?_
  unfold Oper.wp execOp;simp only[ho,resolve,invoke,builtin,Sem.run_bind,Sem.run_pure,Result.andThen_ok,List.map_toArray,List.map_cons,List.map_nil,hs,hx,oM w t o.type e i ht hi g cap c];exact hK _ _ (h _ _ hown ⟨rfl,rfl,rfl,Nat.le_refl _,fun _ _ _=>rfl⟩)
 | some ad=>
  refine wpList_append_own w hgd s x t ho base e i z size bytes ht hi hz hsize hby hzs hsz _ 0 [] hs hown ad m c cs hx hl (fun j u hu=>?_) h1 (by omega) (by rw[Nat.zero_add];exact hbytes) hbase ?_
  ·obtain⟨g',hp,hc⟩:=hsl j u hu
   injection hp with hp;subst hp;have hadd:(⟨g',0,none⟩:Addr).add j=⟨g',j,none⟩:=by unfold Addr.add;split<;>simp_all
   rw[hadd];exact hc
  ·intro v' w' h2 h3 _
   rw[Nat.zero_add,List.nil_append] at h2;exact h v' w' h2 h3
theorem jK(w:World)(N:Nat)(e:TypeId)(k:Nat)(hN:N≤w.heap.size):(w.alloc (.cells #[] e)).ownsRow N e k (.slice (some ⟨w.heap.size,0,none⟩) 0 0) 0 []:=
 World.ownsRow_made w #[] 0 hN (by simp[maxLen]) (by simp)
theorem info_parts{t:TypeId}{z:Value}{a b:Nat}(h:(Tryz.prog.info? t).map (fun i=>(i.zero,i.size,i.bytes))=some (some z,a,b)):∃ i,Tryz.prog.info? t=some i∧i.zero=some z∧i.size=a∧i.bytes=b:=by
 cases hi:Tryz.prog.info? t with
 | none=>rw[hi] at h;simp at h
 | some i=>rw[hi] at h;simp at h;exact⟨i,rfl,h.1,h.2.1,h.2.2⟩
theorem vZ:(Tryz.prog.info? 29).map (fun i=>(i.zero,i.size,i.bytes))=some (some (.int .u16 0),1,2):=by kernel_rfl
theorem mF(l:List (Int × Int)):∀ u∈evC l,u.oneCell'=true:=by
 intro u hu;simp only[evC,List.mem_flatMap] at hu;obtain⟨o,_,hu⟩:=hu;simp at hu;rcases hu with rfl|rfl<;>rfl
theorem kN(l:List Int):∀ u∈inC l,u.oneCell'=true:=by
 intro u hu;simp[inC] at hu;obtain⟨b,_,rfl⟩:=hu;rfl
theorem iQ(l:List Int):(inC l).length=l.length:=by simp[inC]
theorem Evs.sl{w:World}{ov:Value}{l:List (Int × Int)}(h:Evs w ov l):∃ p c,ov= .slice p l.length c∧Sl w p (evC l):=by
 rcases h with⟨p,rfl,rfl⟩|⟨h,_⟩
 ·exact⟨p,0,rfl,Sl.nil w p⟩
 ·obtain⟨p,c,hv,hs⟩:=Sl.own h
  exact⟨p,c,hv,hs⟩
theorem Evs.of{w:World}{N:Nat}{v:Value}{l:List (Int × Int)}(h:w.ownsRow N 81 2 v l.length (evC l)):Evs w v l∧∀ g,rowOf v=some g→N≤g:=by
 obtain⟨h0,h1⟩:=h;rcases h1 with⟨hv,hx⟩|⟨g,cap,cur,hv,hN,hb,hc,r⟩
 ·subst hv
  have hl:l=[]:=by
   cases l with
   | nil=>rfl
   | cons a r=>simp[evC] at hx
  subst hl;exact⟨.inl ⟨none,rfl,rfl⟩,fun g hg=>by simp[rowOf] at hg⟩
 ·subst hv
  by_cases hz:cap=0
  ·subst hz
   have hl:l=[]:=by
    cases l with
    | nil=>rfl
    | cons a r=>simp at hc
   subst hl;exact⟨.inl ⟨some ⟨g,0,none⟩,rfl,rfl⟩,fun k hk=>by simp[rowOf] at hk⟩
  ·have hr:rowOf (.slice (some ⟨g,0,none⟩) l.length cap)=some g:=by simp[rowOf,hz]
   refine⟨.inr ⟨⟨h0,.inr ⟨g,cap,cur,rfl,Nat.zero_le _,hb,hc,r⟩⟩,by rw[hr];rfl⟩,fun k hk=>?_⟩;rw[hr] at hk;cases hk;exact hN
set_option maxHeartbeats 2000000 in
theorem wL(l:List (Int × Int))(p:Option Addr)(c:Nat)(w:World)(hl:Sl w p (evC l))(hn:l.length≤1000000000):
  Calls Tryz.prog 57 #[.slice p l.length c] w fun e w'=>∃ v,e= .returned v∧w'.ownsRow w.heap.size 81 2 v l.length (evC l)∧Below w.heap.size w w':=by
 cases p with
 | none=>
  have hz:l=[]:=by
   cases l with
   | nil=>rfl
   | cons x r=>
    obtain⟨g,hp,_⟩:=hl 0 ((evC (x::r))[0]'(by rw[iC,List.length_cons];omega)) (List.getElem?_eq_getElem _);simp at hp
  subst hz;have H:=Nc (World.ownsRow_nil w w.heap.size 81 2);have hnil:=fun W=>Lib.run_eql_slice_nil (P:=Tryz.prog) W 38 81 none 0 c 0 0 Tryz.underlying38
  go_enter Tryz.func57,Tryz.ntmps57
  go_wp2_with fail
  go_ret
  exact⟨_,rfl,H.out,Below.refl _ _⟩
 | some ad=>
  have hnew:=jK w w.heap.size 81 2 (Nat.le_refl _);have HB:=Nc ((Below.refl _ w).alloc (Nat.le_refl _) (.cells #[] 81));have HSl:=Nc (hl.below HB.out);clear hl;obtain⟨i0,hi,hz0,hz1,hz2⟩:=info_parts uw;have hnil:=fun W=>Lib.run_eql_slice_nil (P:=Tryz.prog) W 38 81 (some ad) l.length c 0 0 Tryz.underlying38
  go_enter Tryz.func57,Tryz.ntmps57
  go_wp2_with (at_builtin;refine uQ _ rfl _ _ 38 rfl w.heap.size 81 i0 (.agg #[.int .u16 0,.int .u16 0]) 2 4 Tryz.underlying38 hi hz0 hz1 hz2 rfl (by decide) w.heap.size 0 rfl hnew (some ad) l.length c (evC l) rfl (by rw[iC];omega) HSl.out (mF _) (by simp only[maxLen];omega) (by omega) (by simp) ?_)
  intro u w2 hown hgr;have HO:=Nc hown;have HBe:=Nc (HB.out.grown hgr (by simp) (fun k hk=>by simp at hk;omega));clear hown hgr hnew HB HSl hi hz0 hz1 hz2;go_wp2_with fail
  go_ret
  exact⟨_,rfl,HO.out,HBe.out⟩
set_option maxHeartbeats 2000000 in
theorem Am(l:List Int)(ad:Addr)(c:Nat)(w:World)(hl:∀ j u,(inC l)[j]? =some u→w.cell? (ad.add j)=some u)(hn:l.length≤1000000000):
  Calls Tryz.prog 59 #[.slice (some ad) l.length c] w fun e w'=>∃ v,e= .returned v∧w'.ownsRow w.heap.size 29 1 v l.length (inC l)∧Below w.heap.size w w':=by
 have hnew:=jK w w.heap.size 29 1 (Nat.le_refl _);have HB:=Nc ((Below.refl _ w).alloc (Nat.le_refl _) (.cells #[] 29));have HSl:=Nc (fun j u hu=>(HB.out.cell (p:=ad.add j) (World.block_lt_of_cell? _ _ (hl j u hu))).trans (hl j u hu));clear hl;obtain⟨i0,hi,hz0,hz1,hz2⟩:=info_parts vZ;have hnil:=fun W=>Lib.run_eql_slice_nil (P:=Tryz.prog) W 37 29 (some ad) l.length c 0 0 Tryz.underlying37
 go_enter Tryz.func59,Tryz.ntmps59
 go_wp2_with (at_builtin;refine wpList_append_own _ rfl _ _ 37 rfl w.heap.size 29 i0 (.int .u16 0) 1 2 Tryz.underlying37 hi hz0 hz1 hz2 rfl (by decide) (.slice (some ⟨w.heap.size,0,none⟩) 0 0) 0 [] rfl hnew ad l.length c (inC l) rfl (by rw[iQ];omega) HSl.out (kN _) (by simp only[maxLen];omega) (by omega) (by simp) ?_)
 intro u w2 hown hgr _;have HO:=Nc hown;have HBe:=Nc (HB.out.grown hgr (by simp) (fun k hk=>by cases hk;exact Nat.le_refl _));clear hown hgr hnew HB HSl hi hz0 hz1 hz2;go_wp2_with fail
 go_ret
 exact⟨_,rfl,HO.out,HBe.out⟩
structure Sn where
 r:Nat→Int
 pc:Int
 sp:Int
 fp:Int
 f:Int
 aF:Int
 steps:Int
 inp:Int
 pol:Int
 ram:ByteArray
 stk:List Int
 out:List (Int × Int)
def snA(X:Sn)(p:Option Addr)(c:Nat)(q:Option Addr)(d:Nat):Array Value:=#[.int .u16 (X.r 0),.int .u16 (X.r 1),.int .u16 (X.r 2),.int .u16 (X.r 3),.int .u16 (X.r 4),.int .u16 (X.r 5),.int .u16 (X.r 6),.int .u16 (X.r 7),.int .u16 X.pc,.int .u16 X.sp,.int .u16 X.fp,.int .u16 X.f,.int .i64 X.aF,.int .i64 X.steps,.int .i64 X.inp,.int .i64 X.pol,.string X.ram,.slice p X.stk.length c,.slice q X.out.length d]
def snV(X:Sn)(p:Option Addr)(c:Nat)(q:Option Addr)(d:Nat):Value:= .agg (snA X p c q d)
structure SnH(w:World)(X:Sn)(p q:Option Addr):Prop where
 stk:Sl w p (inC X.stk)
 out:Sl w q (evC X.out)
 ts:∀ g,p=some ⟨g,0,none⟩→∃ A,w.heap[g]? =some (.cells A 29 (0,0))
 te:∀ g,q=some ⟨g,0,none⟩→∃ A,w.heap[g]? =some (.cells A 81 (0,0))
def From(N:Nat)(p:Option Addr):Prop:=∀ g,p=some ⟨g,0,none⟩→N≤g
def kJ(N:Nat)(X:Sn)(e:Ending)(w:World):Prop:=∃ p c q d,e= .returned (snV X p c q d)∧SnH w X p q∧From N p∧From N q∧X.stk.length≤c
theorem kJ.of{N:Nat}{X:Sn}{e:Ending}{w:World}{p q:Option Addr}{c d:Nat}(he:e= .returned (snV X p c q d))(h:SnH w X p q)(h1:From N p)(h2:From N q)(h3:X.stk.length≤c):kJ N X e w:=⟨p,c,q,d,he,h,h1,h2,h3⟩
theorem SnH.below{w w':World}{X:Sn}{p q:Option Addr}(h:SnH w X p q)(hb:Below w.heap.size w w'):SnH w' X p q:=
 ⟨h.stk.below hb,h.out.below hb,fun g hg=>(h.ts g hg).imp fun A hA=>af hA hb,fun g hg=>(h.te g hg).imp fun A hA=>af hA hb⟩
theorem mr{w:World}{base n m k c:Nat}{e:TypeId}{p:Option Addr}{cs:List Value}(h:w.ownsRow base e k (.slice p n c) m cs):n≤c:=by
 rcases h.2 with⟨hv,_⟩|⟨g,cap,cur,hv,_,_,hn,_⟩
 ·simp at hv;omega
 ·simp only[Value.slice.injEq] at hv;omega
theorem gY{w:World}{base n k c:Nat}{e:TypeId}{p:Option Addr}{cs:List Value}(h:w.ownsRow base e k (.slice p n c) n cs):∀ g,p=some ⟨g,0,none⟩→∃ A,w.heap[g]? =some (.cells A e (0,0)):=by
 intro g hg;subst hg;rcases h.2 with⟨hv,_⟩|⟨g',cap,cur,hv,_,hb,_⟩
 ·simp at hv
 ·simp only[Value.slice.injEq,Option.some.injEq,Addr.mk.injEq] at hv
  obtain⟨⟨rfl,_⟩,_⟩:=hv;exact⟨cur,hb⟩
def u8L(f:Nat→Int)(n:Nat):ByteArray:=⟨((List.range n).map fun j=>UInt8.ofNat (f j).toNat).toArray⟩
def au(S:Ms):Sn:=⟨S.r,S.pc,S.sp,S.fp,S.f,S.aF,S.steps,S.inp,S.pol,u8L S.ram 8192,(List.range S.sp).map S.stk,S.out⟩
def lC(S:Ms):List Value:=((List.range 8192).map S.ram).map (Value.int .u8)
theorem Mc.zI{E:Env}{ov:Value}{S:Ms}{w:World}(h:Mc E ov S w):w.rangeAt E.b 23 (lC S):=fun j v hv=>by
 have hj:j < 8192:=by have:=(List.getElem?_eq_some_iff.1 hv).1;simpa [lC] using this
 have hv':v= .int .u8 (S.ram j):=by
  have h1:(lC S)[j]? =some (.int .u8 (S.ram j)):=by simp[lC,hj]
  rw[h1] at hv;exact(Option.some.inj hv).symm
 rw[hv'];exact h.mY j hj
theorem xQ(l:List Int):∀ (s:ByteArray),l.foldl (fun r n=>r.push (UInt8.ofNat n.toNat)) s=⟨s.data++(l.map fun n=>UInt8.ofNat n.toNat).toArray⟩:=by
 induction l with
 | nil=>intro s;simp
 | cons n l ih=>
  intro s;rw[List.foldl_cons,ih]
  congr 1
  apply Array.ext';simp[ByteArray.push]
theorem jy{f:Nat→Int}{n b o:Nat}{w:World}(h:w.rangeAt b o (((List.range n).map f).map (Value.int .u8)))(c:Nat):(convert 41 9 (.slice (some ⟨b,o,none⟩) n c)).run Tryz.prog w= .ok (.string (u8L f n)) w:=by
 rw[run_convert_bytes_string _ 41 9 5 _ _ _ Tryz.underlying41 Tryz.underlying5 Tryz.underlying9];have hl:=run_loadCells_list (P:=Tryz.prog) w ⟨b,o,none⟩ (((List.range n).map f).map (Value.int .u8)) (fun j v hv=>by rw[Addr.add_mid];exact h j v hv);have hn:(((List.range n).map f).map (Value.int .u8)).length=n:=by simp only[List.length_map,List.length_range]
 rw[hn] at hl;rw[run_bytesToString _ _ _ _ _ hl,xQ];unfold u8L;rw[List.map_map];have:(ByteArray.empty.data:Array UInt8)=#[]:=rfl;rw[this,Array.empty_append];rfl
theorem D9{S:Ms}{b:Nat}{w:World}(h:w.rangeAt b 23 (lC S))(c:Nat):(convert 41 9 (.slice (some ⟨b,23,none⟩) 8192 c)).run Tryz.prog w= .ok (.string (u8L S.ram 8192)) w:=jy h c
theorem nV{o:Oper}{a:Act}{w:World}{x:Operand}{ad:Addr}{n c:Nat}{v:Value}(ho:o.op= .convert 41 9 x)(hx:a.eval x= .slice (some ad) n c)
  (h:(convert 41 9 (.slice (some ad) n c)).run Tryz.prog w= .ok v w):(execOp a.eval o).run Tryz.prog w= .ok (.value v) w:=by
 unfold execOp;simp only[ho,hx,Sem.run_bind,h,Result.andThen_ok,Sem.run_pure]
theorem dK{o:Oper}{a:Act}{w:World}{K:Act→World→Prop}{Q:Exit→Act→World→Prop}(t:TypeId)(parts:Array (Nat × Operand))(ho:o.op= .build t parts){cells:Array Value}
  (vs:List (Nat × Value)) (hv:(parts.map fun (i,x)=>(i,a.eval x)).toList=vs) (hc:Tryz.prog.built t vs=some cells) (h:K (a.put o.dst (.agg cells)) w):o.wp Tryz.prog a w K Q:=by
 unfold Oper.wp execOp;simp only[ho,Sem.run_bind,run_build w t _ cells (hv▸hc),Result.andThen_ok];exact h
theorem aU:(Tryz.prog.info? 40).map (·.size)=some 19:=by kernel_rfl
theorem yc(S:Ms)(x:ByteArray)(p q:Option Addr)(m n c d:Nat):Tryz.prog.built 40 [(0,.agg (stC S).toArray),(1,.string x),(2,.slice p m c),(3,.slice q n d)]=some #[.int .u16 (S.r 0),.int .u16 (S.r 1),.int .u16 (S.r 2),.int .u16 (S.r 3),.int .u16 (S.r 4),.int .u16 (S.r 5),.int .u16 (S.r 6),.int .u16 (S.r 7),.int .u16 S.pc,.int .u16 (S.sp:Nat),.int .u16 S.fp,.int .u16 S.f,.int .i64 S.aF,.int .i64 S.steps,.int .i64 S.inp,.int .i64 S.pol,.string x,.slice p m c,.slice q n d]:=by kernel_rfl
abbrev zS:Array Value:=#[.int .u16 0,.int .u16 0,.int .u16 0,.int .u16 0,.int .u16 0,.int .u16 0,.int .u16 0,.int .u16 0,.int .u16 0,.int .u16 0,.int .u16 0,.int .u16 0,.int .i64 0,.int .i64 0,.int .i64 0,.int .i64 0,.string ⟨#[]⟩,.slice none 0 0,.slice none 0 0]
def zSn:Array Value:=zS
theorem Mc.lS{E:Env}{oq:Option Addr}{od:Nat}{S:Ms}{w:World}(h:Mc E (.slice oq S.out.length od) S w):(fun w'=>w'.rangeAt E.b 7 (stC S)∧w'.rangeAt E.b 23 (lC S)∧w'.cell? ⟨E.b,16,none⟩=some (.int .u16 (S.sp:Nat))∧w'.cell? ⟨E.b,12311,none⟩=some (.slice oq S.out.length od)) w:=⟨h.oz,h.zI,h.c16,h.cOut⟩
set_option maxHeartbeats 4000000 in
theorem pK(E:Env)(ov:Value)(S:Ms)(w:World)(h:Mc E ov S w)(hl:iK S.out):
  Calls Tryz.prog 35 #[.pointer (some ⟨E.b,0,none⟩)] w fun e w'=>kJ w.heap.size (au S) e w'∧Below w.heap.size w w':=by
 obtain⟨oq,od,hov,hsl⟩:=h.out.sl;subst hov;have hA:=h.alloc (.cells zSn 40);have H0:=Nc hA;have HB0:=Nc ((Below.refl _ w).alloc (Nat.le_refl _) (.cells zSn 40));have HZ0:=Nc (heap_alloc_new w (.cells zSn 40));have HSl:=Nc (hsl.alloc (.cells zSn 40));have hsp:=h.ok.sp;have hsp0:((S.sp:Nat):Int)≤4096:=by omega
 have HSP:=Nc hsp;have HL:=Nc hl;have HW:=Nc h;clear h hA hsl hl hsp;go_enter Tryz.func35,Tryz.ntmps35
 go_upto_region 1 with fail
 obtain⟨W0,hW0⟩:∃ W0,w.alloc (.cells #[.int .u16 0,.int .u16 0,.int .u16 0,.int .u16 0,.int .u16 0,.int .u16 0,.int .u16 0,.int .u16 0,.int .u16 0,.int .u16 0,.int .u16 0,.int .u16 0,.int .i64 0,.int .i64 0,.int .i64 0,.int .i64 0,.string ⟨#[]⟩,.slice none 0 0,.slice none 0 0] 40)=W0:=⟨_,rfl⟩;have hz:zSn=#[.int .u16 0,.int .u16 0,.int .u16 0,.int .u16 0,.int .u16 0,.int .u16 0,.int .u16 0,.int .u16 0,.int .u16 0,.int .u16 0,.int .u16 0,.int .u16 0,.int .i64 0,.int .i64 0,.int .i64 0,.int .i64 0,.string ⟨#[]⟩,.slice none 0 0,.slice none 0 0]:=rfl;rw[hz] at H0 HB0 HZ0 HSl;rw[hW0] at H0 HB0 HZ0 HSl⊢;have hS1:=Nc H0.out.drew.lS;have HCu:=Nc (fun W (hW:Below W0.heap.size W0 W)=>Am ((List.range S.sp).map S.stk) ⟨E.b,8215,none⟩ 4096 W (fun j u hu=>(by
  have hj:j < S.sp:=by have:=(List.getElem?_eq_some_iff.1 hu).1;simpa [inC] using this
  have hk:=(H0.out.kept hW).nY j (by have:=HSP.out;omega);rw[Addr.add_mid];have h1:(inC ((List.range S.sp).map S.stk))[j]? =some (.int .u16 (S.stk j)):=by simp[inC,hj]
  rw[h1] at hu;rw[← Option.some.inj hu];exact hk)) (by rw[List.length_map,List.length_range];have:=HSP.out;omega))
 rw[show((List.range S.sp).map S.stk).length=S.sp by rw[List.length_map,List.length_range]] at HCu;have HCe:=Nc (fun W (hW:Below W0.heap.size W0 W)=>wL S.out oq od W (HSl.out.below hW) HL.out);clear hW0 hz;refine wp_region_held_drew (S:=fun w'=>w'.rangeAt E.b 7 (stC S)∧w'.rangeAt E.b 23 (lC S)∧w'.cell? ⟨E.b,16,none⟩=some (.int .u16 (S.sp:Nat))∧w'.cell? ⟨E.b,12311,none⟩=some (.slice oq S.out.length od)) (by kernel_rfl) (hS1.out) (fun hHeld=>?_);refine tq 0 rfl ?_;refine tq 1 rfl ?_;refine tq 2 rfl ?_;refine tk 3 _ rfl (yieldsIf_load_mid (by rfl) 36 _ rfl E.b 7 rfl (stC S) _ (fun w hw=>hw.1) Tryz.underlying36 rfl iP) ?_;refine tq 4 rfl ?_;refine tq 5 rfl ?_;refine tq 6 rfl ?_;refine tq 7 rfl ?_;refine tk 8 _ rfl (Or.inl ⟨by rfl,fun w hw=>nV rfl rfl (D9 hw.2.1 _)⟩) ?_;refine tq 9 rfl ?_;refine tq 10 rfl ?_;refine tq 11 rfl ?_;refine tq 12 rfl ?_;refine tq 13 rfl ?_;refine tq 14 rfl ?_;refine tq 15 rfl ?_;refine tq 16 rfl ?_;refine tq 17 rfl ?_;refine tq 19 rfl ?_;refine tq 20 rfl ?_;refine tq 21 rfl ?_;refine tq 22 rfl ?_;refine rd1 18 rfl (fun K hK=>?_);go_simp
 ((go_at_call 59;(with_reducible refine(HCu.out _ (Below.refl _ _).drew).mono ?_));rintro e w1 ⟨v1,rfl,hown1,hb1⟩;have B1:=Nc (show Below W0.heap.size W0 w1 from(Below.refl _ W0).drew.trans (hb1.mono (Nat.le_refl _)));have HO1:=Nc hown1;have K1:=Nc (H0.out.kept B1.out).lS;clear hown1 hb1)
 go_wp2_with fail
 refine hK.out _ _ (K1.out) (fun hHeld=>?_);clear hK K
 try simp only[lay]
 refine rd1 23 rfl (fun K hK=>?_);go_simp
 ((go_at_call 57;(with_reducible refine(HCe.out _ B1.out).mono ?_));rintro e w2 ⟨v2,rfl,hown2,hb2⟩;have B2:=Nc (B1.out.trans (hb2.mono B1.out.size));have HO2:=Nc hown2;have HB2:=Nc hb2;have K2:=Nc (H0.out.kept B2.out).lS;clear hown2 hb2)
 go_wp2_with fail
 refine hK.out _ _ (K2.out) (fun hHeld=>?_);clear hK K
 try simp only[lay]
 obtain⟨p1,c1,hv1,hs1⟩:=Sl.own HO1.out;obtain⟨p2,c2,hv2,hs2⟩:=Sl.own HO2.out;subst hv1 hv2;have HG1:=Nc (fun g (hp:p1=some ⟨g,0,none⟩)=>(show W0.heap.size≤g by subst hp;exact(HO1.out.lt g rfl).1));have HG2:=Nc (fun g (hp:p2=some ⟨g,0,none⟩)=>(show W0.heap.size≤g by subst hp;exact Nat.le_trans B1.out.size (HO2.out.lt g rfl).1));have HWW:=Nc (lt_of_block HZ0.out);have HS12:=Nc (And.intro (hs1.below HB2.out) hs2);clear hs1 hs2;refine rd1 24 rfl (fun K hK=>?_);refine Eq.mpr (if_pos (by rfl)) ?_;refine dK 40 _ rfl [(0,.agg (stC S).toArray),(1,.string (u8L S.ram 8192)),(2,.slice p1 S.sp c1),(3,.slice p2 S.out.length c2)] (by simp only[List.map_toArray,List.map_cons,List.map_nil];rfl) (yc S (u8L S.ram 8192) p1 p2 S.sp S.out.length c1 c2) ?_;refine hK.out _ _ (K2.out) (fun hHeld=>?_);clear hK K
 try simp only[lay]
 have Z2:=(B2.out.block _ (lt_of_block HZ0.out)).trans HZ0.out;have hsn:snV (au S) p1 c1 p2 c2= .agg #[.int .u16 (S.r 0),.int .u16 (S.r 1),.int .u16 (S.r 2),.int .u16 (S.r 3),.int .u16 (S.r 4),.int .u16 (S.r 5),.int .u16 (S.r 6),.int .u16 (S.r 7),.int .u16 S.pc,.int .u16 (S.sp:Nat),.int .u16 S.fp,.int .u16 S.f,.int .i64 S.aF,.int .i64 S.steps,.int .i64 S.inp,.int .i64 S.pol,.string (u8L S.ram 8192),.slice p1 S.sp c1,.slice p2 S.out.length c2]:=by simp[snV,snA,au]
 have hrow:=setRow_heap w2 w.heap.size _ #[.int .u16 (S.r 0),.int .u16 (S.r 1),.int .u16 (S.r 2),.int .u16 (S.r 3),.int .u16 (S.r 4),.int .u16 (S.r 5),.int .u16 (S.r 6),.int .u16 (S.r 7),.int .u16 S.pc,.int .u16 (S.sp:Nat),.int .u16 S.fp,.int .u16 S.f,.int .i64 S.aF,.int .i64 S.steps,.int .i64 S.inp,.int .i64 S.pol,.string (u8L S.ram 8192),.slice p1 S.sp c1,.slice p2 S.out.length c2] 40 (0,0) Z2;have b3:=below_setRow (HB0.out.trans (B2.out.mono HB0.out.size)) (Nat.le_refl _) #[.int .u16 (S.r 0),.int .u16 (S.r 1),.int .u16 (S.r 2),.int .u16 (S.r 3),.int .u16 (S.r 4),.int .u16 (S.r 5),.int .u16 (S.r 6),.int .u16 (S.r 7),.int .u16 S.pc,.int .u16 (S.sp:Nat),.int .u16 S.fp,.int .u16 S.f,.int .i64 S.aF,.int .i64 S.steps,.int .i64 S.inp,.int .i64 S.pol,.string (u8L S.ram 8192),.slice p1 S.sp c1,.slice p2 S.out.length c2];have B3:=Nc b3;have HRow:=Nc hrow;have K3:=Nc (HW.out.kept b3).lS;have HSn:=Nc hsn;have hb22:Below w2.heap.size w2 w2:=Below.refl _ _;have hs3:SnH (w2.setRow w.heap.size #[.int .u16 (S.r 0),.int .u16 (S.r 1),.int .u16 (S.r 2),.int .u16 (S.r 3),.int .u16 (S.r 4),.int .u16 (S.r 5),.int .u16 (S.r 6),.int .u16 (S.r 7),.int .u16 S.pc,.int .u16 (S.sp:Nat),.int .u16 S.fp,.int .u16 S.f,.int .i64 S.aF,.int .i64 S.steps,.int .i64 S.inp,.int .i64 S.pol,.string (u8L S.ram 8192),.slice p1 S.sp c1,.slice p2 S.out.length c2]) (au S) p1 p2:=by
  have hne:∀ (p:Option Addr) (g:Nat) (cs:List Value),p=some ⟨g,0,none⟩→True:=fun _ _ _ _=>trivial
  refine⟨fun j x hx=>?_,fun j x hx=>?_,fun g hg=>?_,fun g hg=>?_⟩
  ·obtain⟨g,hp,hc⟩:=HS12.out.1 j x hx
   refine⟨g,hp,?_⟩;rw[cell_setRow_other]
   ·exact hc
   ·have h1:=HG1.out g hp;have h2:=HWW.out;simp only;omega
  ·obtain⟨g,hp,hc⟩:=HS12.out.2 j x hx
   refine⟨g,hp,?_⟩;rw[cell_setRow_other]
   ·exact hc
   ·have h1:=HG2.out g hp;have h2:=HWW.out;simp only;omega
  ·obtain⟨A,hA⟩:=gY HO1.out g hg
   exact⟨A,(setRow_other _ _ _ _ (by have h1:=HG1.out g hg;have h2:=HWW.out;omega)).trans (af hA HB2.out)⟩
  ·obtain⟨A,hA⟩:=gY HO2.out g hg
   exact⟨A,(setRow_other _ _ _ _ (by have h1:=HG2.out g hg;have h2:=HWW.out;omega)).trans hA⟩
 have HS3:=Nc hs3;clear hrow b3 hsn hs3 hb22;refine rd1 25 rfl (fun K hK=>?_);refine Eq.mpr (if_pos (by rfl)) ?_;refine wp_store_row 40 _ _ rfl w.heap.size #[.int .u16 (S.r 0),.int .u16 (S.r 1),.int .u16 (S.r 2),.int .u16 (S.r 3),.int .u16 (S.r 4),.int .u16 (S.r 5),.int .u16 (S.r 6),.int .u16 (S.r 7),.int .u16 S.pc,.int .u16 (S.sp:Nat),.int .u16 S.fp,.int .u16 S.f,.int .i64 S.aF,.int .i64 S.steps,.int .i64 S.inp,.int .i64 S.pol,.string (u8L S.ram 8192),.slice p1 S.sp c1,.slice p2 S.out.length c2] rfl rfl 40 _ Z2 aU (by rfl) (by simp[Value.oneCell']) ?_;refine hK.out _ _ (K3.out) (fun hHeld=>?_);clear hK K Z2
 try simp only[lay]
 refine wpAnyH_done (by kernel_rfl) ?_ _;go_wp2_with fail
 exact bodyPost_ret (v:= .agg #[.int .u16 (S.r 0),.int .u16 (S.r 1),.int .u16 (S.r 2),.int .u16 (S.r 3),.int .u16 (S.r 4),.int .u16 (S.r 5),.int .u16 (S.r 6),.int .u16 (S.r 7),.int .u16 S.pc,.int .u16 (S.sp:Nat),.int .u16 S.fp,.int .u16 S.f,.int .i64 S.aF,.int .i64 S.steps,.int .i64 S.inp,.int .i64 S.pol,.string (u8L S.ram 8192),.slice p1 S.sp c1,.slice p2 S.out.length c2]) (results_cell_row rfl _ _ w.heap.size 40 #[.int .u16 (S.r 0),.int .u16 (S.r 1),.int .u16 (S.r 2),.int .u16 (S.r 3),.int .u16 (S.r 4),.int .u16 (S.r 5),.int .u16 (S.r 6),.int .u16 (S.r 7),.int .u16 S.pc,.int .u16 (S.sp:Nat),.int .u16 S.fp,.int .u16 S.f,.int .i64 S.aF,.int .i64 S.steps,.int .i64 S.inp,.int .i64 S.pol,.string (u8L S.ram 8192),.slice p1 S.sp c1,.slice p2 S.out.length c2] (0,0) _ rfl HRow.out Tryz.underlying40 rfl aU) rfl ⟨kJ.of (by rw[HSn.out]) HS3.out (fun g hg=>Nat.le_trans HB0.out.size (HG1.out g hg)) (fun g hg=>Nat.le_trans HB0.out.size (HG2.out g hg)) (by show((List.range S.sp).map S.stk).length≤c1;rw[List.length_map,List.length_range];exact mr HO1.out),B3.out⟩
end Go.Proofs.YthkcloapiefggaaGreatDoor
