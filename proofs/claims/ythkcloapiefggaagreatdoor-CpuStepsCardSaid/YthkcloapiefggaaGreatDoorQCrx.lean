import Derived.Test.YthkcloapiefggaaGreatDoorQMac
import Derived.Test.YthkcloapiefggaaGreatDoorQSnx
import Derived.Test.YthkcloapiefggaaGreatDoorQRnn
namespace Go.Proofs.YthkcloapiefggaaGreatDoor
set_option linter.unusedVariables false
set_option linter.unusedSimpArgs false
set_option maxRecDepth 100000
set_option maxHeartbeats 1000000
open Go.ChangeShapes Go.WideShapes Go.RowKit
def imL(P:Pl)(I:Im):List Value:=[.slice P.p0 I.banks.length P.c0,.int .u16 I.en,.int .u16 I.ve,.slice P.p1 I.data.length P.c1,.slice P.p2 I.rel.length P.c2]
def tpL(T:Tp)(pi:Option Addr)(ci:Nat)(pq:Option Addr)(cq:Nat):List Value:=[.slice pi T.inn.length ci,.slice pq T.irq.length cq]
def stX(X:Sn):List Value:=[.int .u16 (X.r 0),.int .u16 (X.r 1),.int .u16 (X.r 2),.int .u16 (X.r 3),.int .u16 (X.r 4),.int .u16 (X.r 5),.int .u16 (X.r 6),.int .u16 (X.r 7),.int .u16 X.pc,.int .u16 X.sp,.int .u16 X.fp,.int .u16 X.f,.int .i64 X.aF,.int .i64 X.steps,.int .i64 X.inp,.int .i64 X.pol]
structure Sn.Ok(X:Sn):Prop where
 r:∀ k,k < 8→U16 (X.r k)
 pc:U16 X.pc
 fp:U16 X.fp
 f:U16 X.f
 aF:I64 X.aF
 steps:I64 X.steps
 inp:I64 X.inp
 pol:I64 X.pol
 stk:∀ x∈X.stk,U16 x
 out:∀ e∈X.out,U16 e.1∧U16 e.2
def aQ(X:Sn):Ms:=⟨X.r,X.pc,min X.stk.length 4096,X.fp,X.f,X.aF,X.steps,X.inp,X.pol,fun j=>ba X.ram j,fun j=>X.stk.getD j 0,X.out⟩
theorem qE{X:Sn}(h:X.Ok):(aQ X).Ok:=by
 refine⟨h.r,h.pc,Nat.min_le_right _ _,h.fp,h.f,h.aF,h.steps,h.inp,h.pol,fun j _=>ay _ _,fun j _=>?_,h.out⟩;show U16 (X.stk.getD j 0);by_cases hj:j < X.stk.length
 ·exact h.stk _ (getD_mem hj)
 ·rw[List.getD_eq_getElem?_getD,List.getElem?_eq_none (by omega)];exact⟨by decide,by decide⟩
def gI(s:ByteArray)(n:Nat):List Value:=(s.data.toList.map fun x=>Value.int .u8 (x.toNat:Int)).take n
theorem iM(s:ByteArray)(n:Nat):(gI s n).length=min n s.size:=by unfold gI;rw[List.length_take,List.length_map];rfl
theorem yC(s:ByteArray)(n j:Nat)(h:j < (gI s n).length):(gI s n)[j]? =some (.int .u8 (ba s j)):=by
 rw[iM] at h;unfold gI;rw[List.getElem?_take,if_pos (by omega),List.getElem?_map];have hj:j < s.data.toList.length:=by show j < s.size;omega
 rw[List.getElem?_eq_getElem hj];simp only[Option.map_some,ba];rw[List.getElem?_eq_getElem hj];rfl
theorem BN(s:ByteArray)(n:Nat):∀ v∈gI s n,v.oneCell'=true:=by
 intro v hv;obtain⟨b,_,rfl⟩:=List.mem_map.1 (List.mem_of_mem_take hv);rfl
theorem lV(w:World)(dT sT ty elem:TypeId)(g o dLen dCap:Nat)(s:ByteArray)(cur:List Value)(t:TypeId)(hu:Tryz.prog.underlying dT=some (.slice elem))(hs:(Tryz.prog.info? elem).map (·.size)=some 1)
  (hg:w.heap[g]? =some (.cells cur.toArray t (0,0))) (hfit:o+min dLen s.size≤cur.length):
  (Builtin.copy_ #[dT,sT] ty #[.slice (some ⟨g,o,none⟩) dLen dCap,.string s]).run Tryz.prog w= .ok (goInt (gI s dLen).length) (w.setRow g (spl cur o (gI s dLen)).toArray):=by
 have hl:=iM s dLen;have hst:=run_storeCells_at Tryz.prog g o t (gI s dLen) 0 cur.toArray w hg (by simp;omega) (BN s dLen);simp only[Nat.add_zero] at hst;cases hq:Tryz.prog.info? elem with
 | none=>simp[hq] at hs
 | some i=>
  have hi:i.size=1:=by simpa [hq] using hs
  have e2:List.take (min s.size dLen) (List.map (fun x:UInt8=>Value.int IntKind.u8 (x.toNat:Int)) s.data.toList)=gI s dLen:=by
   unfold gI;rcases Nat.le_total s.size dLen with h|h
   ·rw[Nat.min_eq_left h,List.take_of_length_le (by rw[List.length_map];exact Nat.le_refl _),List.take_of_length_le (by rw[List.length_map];exact h)]
   ·rw[Nat.min_eq_right h]
  have e3:Nat.min s.size dLen=min s.size dLen:=rfl;simp[Builtin.copy_,run_underlying hu,Builtin.lenOf,Builtin.firstCells,sizeOf,typeInfo,hq,hi];rw[e3,e2,hst];simp[Result.andThen,hl,Nat.min_comm,spl]
theorem vC(w:World)(dT sT ty elem:TypeId)(g o dLen dCap:Nat)(p:Option Addr)(c:Nat)(l cur:List Value)(t:TypeId)(hu:Tryz.prog.underlying dT=some (.slice elem))(hs:(Tryz.prog.info? elem).map (·.size)=some 1)
  (hg:w.heap[g]? =some (.cells cur.toArray t (0,0))) (hl:Sl w p l) (h1:∀ v∈l,v.oneCell'=true) (hfit:o+min dLen l.length≤cur.length):
  (Builtin.copy_ #[dT,sT] ty #[.slice (some ⟨g,o,none⟩) dLen dCap,.slice p l.length c]).run Tryz.prog w= .ok (goInt (l.take dLen).length) (w.setRow g (spl cur o (l.take dLen)).toArray):=by
 have hz:∀ (h0:min l.length dLen=0),(Builtin.copy_ #[dT,sT] ty #[.slice (some ⟨g,o,none⟩) dLen dCap,.slice p l.length c]).run Tryz.prog w= .ok (goInt (l.take dLen).length) (w.setRow g (spl cur o (l.take dLen)).toArray):=fun h0=>by
  have e0:l.take dLen=[]:=by
   apply List.eq_nil_of_length_eq_zero;rw[List.length_take];omega
  rw[run_copy_none (P:=Tryz.prog) w dT sT ty elem _ _ _ _ _ _ hu hs h0,e0];have e1:(spl cur o []).toArray=cur.toArray:=by unfold spl;simp
  rw[e1,setRow_self w g cur.toArray t (0,0) hg];rfl
 cases p with
 | none=>
  apply hz;cases l with
  | nil=>simp
  | cons y r=>obtain⟨_,hp,_⟩:=hl 0 y rfl;simp at hp
 | some ad=>
  by_cases h0:min l.length dLen=0
  ·exact hz h0
  have hn:(l.take dLen).length=Nat.min l.length dLen:=by rw[List.length_take];exact Nat.min_comm _ _
  rw[run_copy_row (P:=Tryz.prog) w dT sT ty elem g o dLen dCap ad l.length c cur.toArray t (l.take dLen) hu hs hg hn (fun j v hv=>?_) (by simp;omega) (fun v hv=>h1 v (List.mem_of_mem_take hv))]
  ·simp[spl]
  ·have hv':l[j]? =some v:=by
    rw[List.getElem?_take] at hv;split at hv
    ·exact hv
    ·cases hv
   obtain⟨g',hp,hc⟩:=hl j v hv';injection hp with hp;subst hp;rw[Addr.add_mid,Nat.zero_add];exact hc
theorem wp_copy_run(w:World){o:Oper}{a:Act}{K:Act→World→Prop}{Q:Exit→Act→World→Prop}(d s:Operand)(t t':TypeId)(ho:o.op= .call {callee:= .builtin .copy,args:=#[d,s],argTypes:=#[t,t']})
  (v u:Value) (hd:a.eval d=v) (hs:a.eval s=u) {v':Value} {w':World} (hr:(Builtin.copy_ #[t,t'] o.type #[v,u]).run Tryz.prog w= .ok v' w') (h:K (a.put o.dst v') w'):o.wp Tryz.prog a w K Q:=by
 unfold Oper.wp execOp;simp only[ho,resolve,invoke,builtin,Sem.run_bind,Sem.run_pure,Result.andThen_ok,List.map_toArray,List.map_cons,List.map_nil,hd,hs,hr];exact h
theorem xA(E:Env)(X:Sn)(ov:Value)(L:List Value)(hL:L=(spl (spl (lh (imL E.P E.I) (tpL E.T E.pi E.ci E.pq E.cq) (stX X) ov (.map (some E.mp))) 23 (gI X.ram 8192)) 8215 ((inC X.stk).take 4096))):
  L.length=12313∧∀ j,j < 12313→(L.set 16 (.int .u16 (min X.stk.length 4096:Nat)))[j]? =some (mcV E (aQ X) ov j):=by
 have l0:=sG (im:=imL E.P E.I) (tp:=tpL E.T E.pi E.ci E.pq E.cq) (st:=stX X) (ov:=ov) (mv:= .map (some E.mp)) rfl rfl rfl;have r0:=iM X.ram 8192;have s0:((inC X.stk).take 4096).length=min 4096 X.stk.length:=by rw[List.length_take,iQ]
 have l1:=dY (l:=lh (imL E.P E.I) (tpL E.T E.pi E.ci E.pq E.cq) (stX X) ov (.map (some E.mp))) (cs:=gI X.ram 8192) (o:=23) (by omega);have l2:=dY (l:=spl (lh (imL E.P E.I) (tpL E.T E.pi E.ci E.pq E.cq) (stX X) ov (.map (some E.mp))) 23 (gI X.ram 8192)) (cs:=(inC X.stk).take 4096) (o:=8215) (by omega);subst hL;refine⟨by omega,fun j hj=>?_⟩;rw[List.getElem?_set];by_cases c16:16=j
 ·subst c16
  rw[if_pos rfl,if_pos (by omega)];rfl
 rw[if_neg c16,jV (by omega),jV (by omega),C9 rfl rfl rfl];unfold mcV;by_cases c1:j < 23
 ·rw[if_neg (by omega),if_neg (by omega),if_pos c1]
  rcases(show j=0∨j=1∨j=2∨j=3∨j=4∨j=5∨j=6∨j=7∨j=8∨j=9∨j=10∨j=11∨j=12∨j=13∨j=14∨j=15∨j=17∨j=18∨j=19∨j=20∨j=21∨j=22 by omega) with rfl|rfl|rfl|rfl|rfl|rfl|rfl|rfl|rfl|rfl|rfl|rfl|rfl|rfl|rfl|rfl|rfl|rfl|rfl|rfl|rfl|rfl<;>rfl
 rw[if_neg c1,if_neg c1];by_cases c2:j < 8215
 ·rw[if_neg (by omega),if_pos c2]
  by_cases c3:j-23 < (gI X.ram 8192).length
  ·rw[if_pos (by omega),yC _ _ _ c3];rfl
  ·rw[if_neg (by omega),if_neg (by omega),if_neg (by omega),if_neg (by omega),if_neg (by omega),ED (by omega) c2]
   show some (Value.int .u8 0)=some (.int .u8 (ba X.ram (j-23)));rw[Ep _ _ (by omega)]
 rw[if_neg c2];by_cases c4:j < 12311
 ·rw[if_pos c4]
  by_cases c3:j-8215 < X.stk.length
  ·rw[if_pos (by omega),List.getElem?_take,if_pos (by omega)]
   unfold inC;rw[List.getElem?_map,List.getElem?_eq_getElem c3];show _=some (Value.int .u16 (X.stk.getD (j-8215) 0));rw[List.getD_eq_getElem?_getD,List.getElem?_eq_getElem c3];rfl
  ·rw[if_neg (by omega),if_neg (by omega),if_neg (by omega),if_neg (by omega),if_neg (by omega),if_neg (by omega),EC (by omega) c4]
   show some (Value.int .u16 0)=some (.int .u16 (X.stk.getD (j-8215) 0));rw[List.getD_eq_getElem?_getD,List.getElem?_eq_none (by omega)];rfl
 rw[if_neg c4,if_neg (by omega),if_neg (by omega),if_neg (by omega),if_neg (by omega)];by_cases c5:j=12311
 ·subst c5;rw[if_pos rfl,if_pos rfl]
 ·rw[if_neg c5,if_pos (by omega),if_neg c5]
theorem dP:(Tryz.prog.info? 33).map (·.size)=some 5:=by kernel_rfl
theorem iy:(Tryz.prog.info? 43).map (·.size)=some 2:=by kernel_rfl
theorem Hf:(Tryz.prog.info? 5).map (·.size)=some 1:=by kernel_rfl
theorem Jb:(Tryz.prog.info? 29).map (·.size)=some 1:=by kernel_rfl
structure Nb(n:Nat)(w W:World)(im tp sn:Array Value):Prop where
 h0:W.heap[n]? =some (.cells im 33 (0,0))
 h1:W.heap[n+1]? =some (.cells tp 43 (0,0))
 h2:W.heap[n+2]? =some (.cells sn 40 (0,0))
 bel:Below n w W
 size:W.heap.size=n+3
theorem Jp(w:World)(im tp sn:Array Value):Nb w.heap.size w (((w.alloc (.cells im 33)).alloc (.cells tp 43)).alloc (.cells sn 40)) im tp sn:=by
 have h0:=heap_alloc_new w (.cells im 33);have h1:=heap_alloc_new (w.alloc (.cells im 33)) (.cells tp 43);have h2:=heap_alloc_new ((w.alloc (.cells im 33)).alloc (.cells tp 43)) (.cells sn 40);have hz:((w.alloc (.cells im 33)).alloc (.cells tp 43)).heap.size=w.heap.size+2:=by simp
 rw[hz] at h2;simp only[World.size_alloc] at h1;exact⟨aj _ _ _ (aj _ _ _ h0),aj _ _ _ h1,h2,(((Below.refl _ w).alloc (Nat.le_refl _) _).alloc (by simp) _).alloc (by simp;omega) _,by simp⟩
theorem aH{w:World}{g:Nat}{A:Array Value}{t:TypeId}{f:Nat × Nat}(h:w.heap[g]? =some (.cells A t f))(l:List Value)(hl:∀ (j:Nat) (v:Value),l[j]? =some v→A[j]? =some v):w.rangeAt g 0 l:=fun j v hv=>by
 rw[Nat.zero_add];exact ae h j _ (hl j v hv)
set_option maxHeartbeats 4000000 in
theorem qy(P:Pl)(I:Im)(T:Tp)(pi pq:Option Addr)(ci cq:Nat)(X:Sn)(p q:Option Addr)(c d:Nat)(w:World)(hI:I.Ok)(hT:T.Ok)(hX:X.Ok)(hp:Has w P I)(h1:Slo w pi (inC T.inn))(h2:Slo w pq (irC T.irq))(h3:SnH w X p q)(ht:iq w)(hl:iK X.out):
  Calls Tryz.prog 33 #[.agg #[.slice P.p0 I.banks.length P.c0,.int .u16 I.en,.int .u16 I.ve,.slice P.p1 I.data.length P.c1,.slice P.p2 I.rel.length P.c2],.agg #[.slice pi T.inn.length ci,.slice pq T.irq.length cq],.agg #[.int .u16 (X.r 0),.int .u16 (X.r 1),.int .u16 (X.r 2),.int .u16 (X.r 3),.int .u16 (X.r 4),.int .u16 (X.r 5),.int .u16 (X.r 6),.int .u16 (X.r 7),.int .u16 X.pc,.int .u16 X.sp,.int .u16 X.fp,.int .u16 X.f,.int .i64 X.aF,.int .i64 X.steps,.int .i64 X.inp,.int .i64 X.pol,.string X.ram,.slice p X.stk.length c,.slice q X.out.length d]] w fun e w'=>∃ E ov,e= .returned (.pointer (some ⟨E.b,0,none⟩))∧E.w0=w∧E.I=I∧E.T=T∧Mc E ov (aQ X) w'∧Opz E:=by
 have hpos:0 < w.heap.size:=by obtain⟨_,_,h⟩:=ht;exact lt_of_block h
 have HX:=Jp w #[.slice P.p0 I.banks.length P.c0,.int .u16 I.en,.int .u16 I.ve,.slice P.p1 I.data.length P.c1,.slice P.p2 I.rel.length P.c2] #[.slice pi T.inn.length ci,.slice pq T.irq.length cq] #[.int .u16 (X.r 0),.int .u16 (X.r 1),.int .u16 (X.r 2),.int .u16 (X.r 3),.int .u16 (X.r 4),.int .u16 (X.r 5),.int .u16 (X.r 6),.int .u16 (X.r 7),.int .u16 X.pc,.int .u16 X.sp,.int .u16 X.fp,.int .u16 X.f,.int .i64 X.aF,.int .i64 X.steps,.int .i64 X.inp,.int .i64 X.pol,.string X.ram,.slice p X.stk.length c,.slice q X.out.length d];go_enter Tryz.func33,Tryz.ntmps33
 go_upto_region 1 with fail
 obtain⟨n,hn⟩:∃ n,w.heap.size=n:=⟨_,rfl⟩;obtain⟨W0,hW0⟩:∃ W0,(((w.alloc (.cells #[.slice P.p0 I.banks.length P.c0,.int .u16 I.en,.int .u16 I.ve,.slice P.p1 I.data.length P.c1,.slice P.p2 I.rel.length P.c2] 33)).alloc (.cells #[.slice pi T.inn.length ci,.slice pq T.irq.length cq] 43)).alloc (.cells #[.int .u16 (X.r 0),.int .u16 (X.r 1),.int .u16 (X.r 2),.int .u16 (X.r 3),.int .u16 (X.r 4),.int .u16 (X.r 5),.int .u16 (X.r 6),.int .u16 (X.r 7),.int .u16 X.pc,.int .u16 X.sp,.int .u16 X.fp,.int .u16 X.f,.int .i64 X.aF,.int .i64 X.steps,.int .i64 X.inp,.int .i64 X.pol,.string X.ram,.slice p X.stk.length c,.slice q X.out.length d] 40))=W0:=⟨_,rfl⟩;rw[hW0] at HX;rw[hW0];rw[hn] at HX;rw[hn,show n+1+1=n+2 from rfl];have hSQ:∀ W,Below W0.heap.size W0 W→(fun w'=>w'.rangeAt n 0 (imL P I)∧w'.rangeAt (n+1) 0 (tpL T pi ci pq cq)∧w'.rangeAt (n+2) 0 (stX X)∧w'.cell? ⟨n+2,18,none⟩=some (.slice q X.out.length d)) W:=fun W hb=>by
  have g0:=af HX.h0 hb;have g1:=af HX.h1 hb;have g2:=af HX.h2 hb;refine⟨aH g0 _ (fun j v hv=>by rw[← hv];simp[imL]),aH g1 _ (fun j v hv=>by rw[← hv];simp[tpL]),aH g2 _ (fun j v hv=>?_),ae g2 18 _ rfl⟩;have hj:j < 16:=by have:=(List.getElem?_eq_some_iff.1 hv).1;simpa [stX] using this
  rw[← hv]
  rcases(show j=0∨j=1∨j=2∨j=3∨j=4∨j=5∨j=6∨j=7∨j=8∨j=9∨j=10∨j=11∨j=12∨j=13∨j=14∨j=15 by omega) with rfl|rfl|rfl|rfl|rfl|rfl|rfl|rfl|rfl|rfl|rfl|rfl|rfl|rfl|rfl|rfl<;>rfl
 have HSQ:=Nc hSQ;have HSt:=Nc (fun W (hb:Below W0.heap.size W0 W)=>And.intro (ae (af HX.h2 hb) 16 (.string X.ram) rfl) (ae (af HX.h2 hb) 17 (.slice p X.stk.length c) rfl));have hbel:Below w.heap.size w W0:=by rw[hn];exact HX.bel
 have HBel:=Nc hbel;have HCe:=Nc (fun W (hW:Below W0.heap.size W0 W)=>wL X.out q d W (h3.out.below (hbel.trans (hW.mono hbel.size))) hl);have HSn:=Nc h3.stk;have HEnv:=Nc (And.intro hI (And.intro hT (And.intro hX (And.intro hp (And.intro h1 (And.intro h2 (And.intro ht hpos)))))));have HN:=Nc (And.intro hn HX.size);have hS1:=Nc (hSQ W0.drew (Below.refl _ _).drew);clear hW0 HX hSQ hbel hI hT hX hp h1 h2 h3 ht hl hpos hn;refine wp_region_held_drew (S:=fun w'=>w'.rangeAt n 0 (imL P I)∧w'.rangeAt (n+1) 0 (tpL T pi ci pq cq)∧w'.rangeAt (n+2) 0 (stX X)∧w'.cell? ⟨n+2,18,none⟩=some (.slice q X.out.length d)) (by kernel_rfl) (hS1.out) (fun hHeld=>?_);refine tk 0 _ rfl (yieldsIf_load_mid (by rfl) 33 _ rfl n 0 rfl (imL P I) _ (fun w hw=>hw.1) Tryz.underlying33 rfl dP) ?_;refine tk 1 _ rfl (yieldsIf_load_mid (by rfl) 43 _ rfl (n+1) 0 rfl (tpL T pi ci pq cq) _ (fun w hw=>hw.2.1) Tryz.underlying43 rfl iy) ?_;refine tq 2 rfl ?_;refine tk 3 _ rfl (yieldsIf_load_mid (by rfl) 36 _ rfl (n+2) 0 rfl (stX X) _ (fun w hw=>hw.2.2.1) Tryz.underlying36 rfl iP) ?_;refine tq 4 rfl ?_;refine tq 5 rfl ?_;refine rd1 6 rfl (fun K hK=>?_);go_simp
 ((go_at_call 57;(with_reducible refine(HCe.out _ (Below.refl _ _).drew).mono ?_));rintro e w1 ⟨v1,rfl,hown1,hb1⟩;have B1:=Nc (show Below W0.heap.size W0 w1 from(Below.refl _ W0).drew.trans (hb1.mono (Nat.le_refl _)));have HO1:=Nc hown1;have K1:=Nc (HSQ.out w1 B1.out);clear hown1 hb1)
 go_wp2_with fail
 refine hK.out _ _ (K1.out) (fun hHeld=>?_);clear hK K
 try simp only[lay]
 refine rd1 7 rfl (fun K hK=>?_);go_simp
 ((go_at_call 58;(with_reducible refine(qY _).mono ?_));rintro e w2 ⟨mp,DD,FF,rfl,hb2,hops⟩;have B2:=Nc (B1.out.trans (hb2.mono B1.out.size));have HB2:=Nc hb2;have HOps:=Nc hops;have K2:=Nc (HSQ.out w2 B2.out);clear hb2 hops)
 go_wp2_with fail
 refine hK.out _ _ (K2.out) (fun hHeld=>?_);clear hK K
 try simp only[lay]
 have HO2:=Nc (HO1.out.kept (below_grown HB2.out) (by cases v1.ownBlock<;>simp));obtain⟨L,hL⟩:∃ L,lh (imL P I) (tpL T pi ci pq cq) (stX X) v1 (.map (some mp))=L:=⟨_,rfl⟩;have hov:v1.cells=#[v1]:=by obtain⟨_,_,rfl,_⟩:=Sl.own HO1.out;rfl
 have hbm:=Eo (imL P I) (tpL T pi ci pq cq) (stX X) v1 (.map (some mp)) rfl rfl rfl hov rfl;rw[hL] at hbm;have HL:=Nc hL;obtain⟨A,hA⟩:∃ A,L.toArray=A:=⟨_,rfl⟩;rw[hA] at hbm;have HA:=Nc hA;clear hL hA hov;refine rd1 8 rfl (fun K hK=>?_);refine Eq.mpr (if_pos (by rfl)) ?_;refine dK 117 _ rfl [(0,.agg (imL P I).toArray),(1,.agg (tpL T pi ci pq cq).toArray),(2,.agg (stX X).toArray),(5,v1),(6,.map (some mp))] (by simp only[List.map_toArray,List.map_cons,List.map_nil];rfl) hbm ?_;refine hK.out _ _ (K2.out) (fun hHeld=>?_);clear hK K hbm
 try simp only[lay]
 have hb4:Below W0.heap.size W0 (w2.alloc (.cells A 117)):=B2.out.alloc B2.out.size _;have HB4:=Nc hb4;have HM4:=Nc (heap_alloc_new w2 (.cells A 117));have HG4:=Nc ((Below.refl _ w2).alloc (Nat.le_refl _) (.cells A 117));have K4:=Nc (HSQ.out _ hb4);clear hb4;refine rd1 9 rfl (fun K hK=>?_);go_simp;refine hK.out _ _ (K4.out) (fun hHeld=>?_);clear hK K
 try simp only[lay]
 refine tq 10 rfl ?_;refine wpAnyH_done (by kernel_rfl) ?_ _;obtain⟨W4,hW4⟩:∃ W4,w2.alloc (.cells A 117)=W4:=⟨_,rfl⟩;rw[hW4] at HB4 HM4 HG4;rw[hW4];clear hW4 K4;obtain⟨m,hm⟩:∃ m,w2.heap.size=m:=⟨_,rfl⟩;rw[hm] at HM4 HG4;rw[hm];have HMm:=Nc hm;clear hm;have hlen:L.length=12313:=by rw[← HL.out];exact sG rfl rfl rfl
 have HLen:=Nc hlen;have hr1:=lV W4.drew 41 9 3 5 m 23 8192 8192 X.ram L 117 Tryz.underlying41 Hf (by rw[HA.out];exact HM4.out) (by omega);have hf1:=setRow_heap W4.drew m _ (spl L 23 (gI X.ram 8192)).toArray 117 (0,0) (show W4.drew.heap[m]? =_ from HM4.out);have hb1:=below_setRow HG4.out.drew (Nat.le_refl _) (spl L 23 (gI X.ram 8192)).toArray;obtain⟨W5,hW5⟩:∃ W5,W4.drew.setRow m (spl L 23 (gI X.ram 8192)).toArray=W5:=⟨_,rfl⟩;rw[hW5] at hr1 hf1 hb1;have HR1:=Nc hr1;have HM5:=Nc hf1;have HG5:=Nc hb1;have HB5:=Nc (B2.out.trans (show Below W0.heap.size w2 W5 from hb1.mono (by rw[← HMm.out];exact B2.out.size)));have hS2:=Nc (HSt.out W4.drew HB4.out.drew).1;have hS2':=Nc (HSt.out W5 HB5.out).1;have hS3:=Nc (HSt.out W5.drew HB5.out.drew).2;clear hW5 hr1 hf1 hb1 hlen hHeld;go_wp2_with fail
 refine wp_region_held_drew (S:=fun w'=>w'.cell? ⟨n+2,16,none⟩=some (.string X.ram)) (by kernel_rfl) (hS2.out) (fun hHeld=>?_);refine tq 0 rfl ?_;refine tq 1 rfl ?_;refine tq 2 rfl ?_;refine tq 3 rfl ?_;refine tq 4 rfl ?_;refine tq 5 rfl ?_;refine rd1 6 rfl (fun K hK=>?_);refine Eq.mpr (if_pos (by rfl)) ?_;refine wp_copy_run _ _ _ _ _ rfl _ _ rfl rfl HR1.out ?_;refine hK.out _ _ (hS2'.out) (fun hHeld=>?_);clear hK K
 try simp only[lay]
 refine wpAnyH_done (by kernel_rfl) ?_ _;have hl5:(spl L 23 (gI X.ram 8192)).length=12313:=by rw[dY (by rw[iM,HLen.out];omega)];exact HLen.out
 have hw5:Below w.heap.size w W5.drew:=(HBel.out.trans (HB5.out.mono HBel.out.size)).drew;obtain⟨N,hN⟩:∃ N,((inC X.stk).take 4096).length=N:=⟨_,rfl⟩;have hN':N=min 4096 X.stk.length:=by rw[← hN,List.length_take,iQ]
 have hr2:=vC W5.drew 37 37 3 29 m 8215 4096 4096 p c (inC X.stk) (spl L 23 (gI X.ram 8192)) 117 Tryz.underlying37 Jb HM5.out (HSn.out.below hw5) (kN _) (by rw[iQ];omega);have hf2:=setRow_heap W5.drew m _ (spl (spl L 23 (gI X.ram 8192)) 8215 ((inC X.stk).take 4096)).toArray 117 (0,0) (show W5.drew.heap[m]? =_ from HM5.out);have hb2:=below_setRow HG5.out.drew (Nat.le_refl _) (spl (spl L 23 (gI X.ram 8192)) 8215 ((inC X.stk).take 4096)).toArray;obtain⟨W6,hW6⟩:∃ W6,W5.drew.setRow m (spl (spl L 23 (gI X.ram 8192)) 8215 ((inC X.stk).take 4096)).toArray=W6:=⟨_,rfl⟩;rw[hW6,hN,iQ] at hr2;rw[hW6] at hf2 hb2;have HR2:=Nc hr2;have HM6:=Nc hf2;have HG6:=Nc hb2;have HB6:=Nc (B2.out.trans (show Below W0.heap.size w2 W6 from hb2.mono (by rw[← HMm.out];exact B2.out.size)));have hS3':=Nc (HSt.out W6 HB6.out).2;have HNN:=Nc hN';have hwr:IntKind.u16.wrap (N:Int)=(N:Int):=(IntKind.wrap_u16 _).trans (Int.emod_eq_of_lt (by omega) (by omega));have HC:=xA ⟨w,P,I,pi,ci,pq,cq,T,w2,w1.heap.size,m,mp,m⟩ X v1 (spl (spl L 23 (gI X.ram 8192)) 8215 ((inC X.stk).take 4096)) (by rw[← HL.out]);obtain⟨M,hM⟩:∃ M,spl (spl L 23 (gI X.ram 8192)) 8215 ((inC X.stk).take 4096)=M:=⟨_,rfl⟩;rw[hM] at HC HM6;have HCC:=Nc HC;obtain⟨v16,c16⟩:∃ v,W6.cell? ⟨m,16,none⟩=some v:=⟨_,ae HM6.out 16 (M[16]'(by rw[HC.1];decide)) (by simp)⟩;have f16:=frozen_of_row W6 m 16 _ _ HM6.out;clear hW6 hr2 hf2 hb2 hHeld hl5 hw5 hN hN' HC hM;go_wp2_with fail
 refine wp_region_held_drew (S:=fun w'=>w'.cell? ⟨n+2,17,none⟩=some (.slice p X.stk.length c)) (by kernel_rfl) (hS3.out) (fun hHeld=>?_);refine tq 0 rfl ?_;refine tq 1 rfl ?_;refine tq 2 rfl ?_;refine tq 3 rfl ?_;refine tq 4 rfl ?_;refine tq 5 rfl ?_;refine tq 6 rfl ?_;refine rd1 7 rfl (fun K hK=>?_);refine Eq.mpr (if_pos (by rfl)) ?_;refine wp_copy_run _ _ _ _ _ rfl _ _ rfl rfl HR2.out ?_;refine hK.out _ _ (hS3'.out) (fun hHeld=>?_);clear hK K
 try simp only[lay]
 refine tq 8 rfl ?_;refine tq 9 rfl ?_;refine tq 10 rfl ?_;refine tq 11 rfl ?_;have hm7:=bP W6 m 16 (.int .u16 (N:Int)) _ _ _ HM6.out;have hb7:=HG6.out.setCell (p:=⟨m,16,none⟩) (Nat.le_refl _) (.int .u16 (N:Int));have hS7:=Nc ((HSt.out _ (B2.out.trans (show Below W0.heap.size w2 (W6.setCell ⟨m,16,none⟩ (.int .u16 (N:Int))) from hb7.mono (by rw[← HMm.out];exact B2.out.size)))).2);obtain⟨W7,hW7⟩:∃ W7,W6.setCell ⟨m,16,none⟩ (.int .u16 (N:Int))=W7:=⟨_,rfl⟩;rw[hW7] at hm7 hb7 hS7;have HM7:=Nc hm7;have HG7:=Nc hb7;have HW7:=Nc hW7;clear hm7 hb7 hW7;refine rd1 12 rfl (fun K hK=>?_);go_simp;rw[HW7.out];refine hK.out _ _ (hS7.out) (fun hHeld=>?_);clear hK K
 try simp only[lay]
 refine wpAnyH_done (by kernel_rfl) ?_ _;clear hHeld;go_wp2_with fail
 go_ret
 obtain⟨hI,hT,hX,hp,h1,h2,ht,hpos⟩:=HEnv.out;have hms:w2.heap.size=m:=HMm.out;have hws:w.heap.size≤w1.heap.size:=Nat.le_trans HBel.out.size B1.out.size;have hw12:w1.heap.size≤m:=by rw[← hms];exact HB2.out.size
 have hb7:Below w.heap.size w W7:=(HBel.out.trans (B2.out.mono HBel.out.size)).trans (HG7.out.mono (by omega));have hev:=Evs.of (HO2.out.kept (below_grown (show Below w2.heap.size w2 W7 by rw[hms];exact HG7.out)) (by cases v1.ownBlock<;>simp));have hN16:(N:Nat)=min X.stk.length 4096:=by rw[HNN.out,Nat.min_comm]
 refine⟨⟨w,P,I,pi,ci,pq,cq,T,w2,w1.heap.size,m,mp,m⟩,v1,rfl,rfl,rfl,rfl,⟨qE hX,⟨hI,hT,hp,h1,h2,ht,hpos,hws,HOps.out.m0,by rw[← hms];exact HOps.out.m1,Nat.le_refl _⟩,hb7,fun k _ hk=>HG7.out.block k hk,⟨_,HM7.out,?_,fun j hj=>?_⟩,hev.1,fun g hg=>?_⟩,⟨DD,FF,HOps.out.own,HOps.out.m0,by rw[← hms];exact HOps.out.m1,HOps.out.at_,fun op ho=>?_⟩⟩
 ·simp[HCC.out.1]
 ·have h:=HCC.out.2 j hj
  rw[← hN16] at h;rw[← h];simp[Array.getElem?_setIfInBounds,List.getElem?_set]
 ·have hb:=hev.2 g hg
  have hlt:g < w1.heap.size:=by
   rcases hev.1 with⟨pp,hv,_⟩|⟨_,ho⟩
   ·rw[hv] at hg;cases pp<;>simp[rowOf] at hg
   ·exact(HO1.out.lt g (ho.trans hg)).2
  have hge:W0.drew.heap.size≤g:=hb;have hge':W0.heap.size≤g:=hge;exact⟨Nat.le_trans HBel.out.size hge',Or.inl hlt,by show g≠m;omega⟩
 ·have hgood:=HOps.out.good op ho
  rw[hms] at hgood;exact hgood
def snL(X:Sn)(p:Option Addr)(c:Nat)(q:Option Addr)(d:Nat):List Value:=[.int .u16 (X.r 0),.int .u16 (X.r 1),.int .u16 (X.r 2),.int .u16 (X.r 3),.int .u16 (X.r 4),.int .u16 (X.r 5),.int .u16 (X.r 6),.int .u16 (X.r 7),.int .u16 X.pc,.int .u16 X.sp,.int .u16 X.fp,.int .u16 X.f,.int .i64 X.aF,.int .i64 X.steps,.int .i64 X.inp,.int .i64 X.pol,.string X.ram,.slice p X.stk.length c,.slice q X.out.length d]
def kK(N:Nat)(Y:Sn)(k i:Int)(e:Ending)(w:World):Prop:=∃ p c q d,e= .returned (.tuple #[snV Y p c q d,iL k i])∧SnH w Y p q∧From N p∧From N q∧Y.stk.length≤c
theorem Eqv.EW{S S':Ms}(h:Eqv S S'):(au S').stk=(au S).stk:=by
 show(List.range S'.sp).map S'.stk=(List.range S.sp).map S.stk
 rw[h.sp];exact List.map_congr_left fun j hj=>h.stk j (List.mem_range.1 hj)
theorem Eqv.LK{S S':Ms}(h:Eqv S S'):(au S').ram=(au S).ram:=by
 show u8L S'.ram 8192=u8L S.ram 8192;unfold u8L
 congr 2
 exact List.map_congr_left fun j hj=>by rw[h.ram j (List.mem_range.1 hj)]
theorem Eqv.snA{S S':Ms}(h:Eqv S S')(p:Option Addr)(c:Nat)(q:Option Addr)(d:Nat):snV (au S') p c q d=snV (au S) p c q d:=by
 have e1:=h.EW;have e2:=h.LK;have e3:(au S').out=(au S).out:=h.out;unfold snV Proofs.YthkcloapiefggaaGreatDoor.snA;rw[e1,e2,e3];show Value.agg #[.int .u16 (S'.r 0),.int .u16 (S'.r 1),.int .u16 (S'.r 2),.int .u16 (S'.r 3),.int .u16 (S'.r 4),.int .u16 (S'.r 5),.int .u16 (S'.r 6),.int .u16 (S'.r 7),.int .u16 S'.pc,.int .u16 (S'.sp:Nat),.int .u16 S'.fp,.int .u16 S'.f,.int .i64 S'.aF,.int .i64 S'.steps,.int .i64 S'.inp,.int .i64 S'.pol,_,_,_]=Value.agg #[.int .u16 (S.r 0),.int .u16 (S.r 1),.int .u16 (S.r 2),.int .u16 (S.r 3),.int .u16 (S.r 4),.int .u16 (S.r 5),.int .u16 (S.r 6),.int .u16 (S.r 7),.int .u16 S.pc,.int .u16 (S.sp:Nat),.int .u16 S.fp,.int .u16 S.f,.int .i64 S.aF,.int .i64 S.steps,.int .i64 S.inp,.int .i64 S.pol,_,_,_];rw[h.r 0 (by decide),h.r 1 (by decide),h.r 2 (by decide),h.r 3 (by decide),h.r 4 (by decide),h.r 5 (by decide),h.r 6 (by decide),h.r 7 (by decide),h.pc,h.sp,h.fp,h.f,h.aF,h.steps,h.inp,h.pol]
theorem Eqv.snH{S S':Ms}(h:Eqv S S'){w:World}{p q:Option Addr}(g:SnH w (au S') p q):SnH w (au S) p q:=⟨h.EW▸g.stk,(show(au S').out=(au S).out from h.out)▸g.out,g.ts,g.te⟩
theorem Eqv.LP{S S':Ms}(h:Eqv S S')(g:S'.Ok):(au S).Ok:=
 ⟨fun k hk=>by show U16 (S.r k);rw[← h.r k hk];exact g.r k hk,by show U16 S.pc;rw[← h.pc];exact g.pc,by show U16 S.fp;rw[← h.fp];exact g.fp,by show U16 S.f;rw[← h.f];exact g.f,by show I64 S.aF;rw[← h.aF];exact g.aF,by show I64 S.steps;rw[← h.steps];exact g.steps,by show I64 S.inp;rw[← h.inp];exact g.inp,by show I64 S.pol;rw[← h.pol];exact g.pol,fun x hx=>by
  obtain⟨j,hj,rfl⟩:=List.mem_map.1 hx;have hj':=List.mem_range.1 hj;rw[← h.stk j hj'];exact g.stk j (by have:=g.sp;have:=h.sp;omega),fun e he=>g.out e (by rw[h.out];exact he)⟩
def OkE(S:Ms):Prop:=∃ S',Eqv S S'∧S'.Ok
theorem OkE.sn{S:Ms}(h:OkE S):(au S).Ok:=by obtain⟨_,h1,h2⟩:=h;exact h1.LP h2
theorem fF{fn:Func}{a b:Tmp}{ta tb:TypeId}(h:fn.results=#[.cell a ta,.cell b tb])(tmps:Array Value)(w:World)(ga gb:Nat)(ua ub:TypeId)(ca cb:Array Value)(fa fb:Nat × Nat){da db:Array Field}
  (ha:tmps.getD a undef= .pointer (some ⟨ga,0,none⟩)) (hb:tmps.getD b undef= .pointer (some ⟨gb,0,none⟩)) (hga:w.heap[ga]? =some (.cells ca ua fa)) (hgb:w.heap[gb]? =some (.cells cb ub fb))
  (hua:Tryz.prog.underlying ta=some (.struct da)) (hia:(Tryz.prog.info? ta).map (·.size)=some ca.size)
  (hub:Tryz.prog.underlying tb=some (.struct db)) (hib:(Tryz.prog.info? tb).map (·.size)=some cb.size):
  (results fn tmps).run Tryz.prog w= .ok (.tuple #[.agg ca,.agg cb]) w:=by
 have ha':tmps[a]?.getD undef= .pointer (some ⟨ga,0,none⟩):=by simpa using ha
 have hb':tmps[b]?.getD undef= .pointer (some ⟨gb,0,none⟩):=by simpa using hb
 simp[results,h,ha',hb',asAddr,run_loadVar_row w ga ua ta ca fa _ hga hua rfl hia,run_loadVar_row w gb ub tb cb fb _ hgb hub rfl hib]
structure Na(n:Nat)(w W:World)(im tp sn zs zt:Array Value):Prop where
 h0:W.heap[n]? =some (.cells im 33 (0,0))
 h1:W.heap[n+1]? =some (.cells tp 43 (0,0))
 h2:W.heap[n+2]? =some (.cells sn 40 (0,0))
 h3:W.heap[n+3]? =some (.cells zs 40 (0,0))
 h4:W.heap[n+4]? =some (.cells zt 47 (0,0))
 bel:Below n w W
 size:W.heap.size=n+5
theorem GM(w:World)(im tp sn zs zt:Array Value):Na w.heap.size w (((((w.alloc (.cells im 33)).alloc (.cells tp 43)).alloc (.cells sn 40)).alloc (.cells zs 40)).alloc (.cells zt 47)) im tp sn zs zt:=by
 have B:=Jp w im tp sn;obtain⟨W,hW⟩:∃ W,((w.alloc (.cells im 33)).alloc (.cells tp 43)).alloc (.cells sn 40)=W:=⟨_,rfl⟩;rw[hW] at B⊢;have h3:=heap_alloc_new W (.cells zs 40);have h4:=heap_alloc_new (W.alloc (.cells zs 40)) (.cells zt 47);have s1:(W.alloc (.cells zs 40)).heap.size=w.heap.size+4:=by simp[B.size]
 rw[B.size] at h3;rw[s1] at h4;exact⟨aj _ _ _ (aj _ _ _ B.h0),aj _ _ _ (aj _ _ _ B.h1),aj _ _ _ (aj _ _ _ B.h2),aj _ _ _ h3,h4,(B.bel.alloc (by rw[B.size];omega) _).alloc (by rw[s1];omega) _,by simp[B.size]⟩
theorem SnH.set2{w:World}{X:Sn}{p q:Option Addr}{N a b:Nat}(h:SnH w X p q)(hp:From N p)(hq:From N q)(ha:a < N)(hb:b < N)(ca cb:Array Value):SnH ((w.setRow a ca).setRow b cb) X p q:=by
 refine⟨fun j x hx=>?_,fun j x hx=>?_,fun g hg=>?_,fun g hg=>?_⟩
 ·obtain⟨g,hg,hc⟩:=h.stk j x hx
  have:=hp g hg;exact⟨g,hg,by rw[cell_setRow_other _ _ _ _ (by simp only;omega),cell_setRow_other _ _ _ _ (by simp only;omega)];exact hc⟩
 ·obtain⟨g,hg,hc⟩:=h.out j x hx
  have:=hq g hg;exact⟨g,hg,by rw[cell_setRow_other _ _ _ _ (by simp only;omega),cell_setRow_other _ _ _ _ (by simp only;omega)];exact hc⟩
 ·have:=hp g hg
  exact(h.ts g hg).imp fun A hA=>(setRow_other _ _ _ _ (by omega)).trans ((setRow_other _ _ _ _ (by omega)).trans hA)
 ·have:=hq g hg
  exact(h.te g hg).imp fun A hA=>(setRow_other _ _ _ _ (by omega)).trans ((setRow_other _ _ _ _ (by omega)).trans hA)
theorem SnH.jf{w:World}{X:Sn}{p q:Option Addr}{a:Nat}{A:Array Value}{t:TypeId}(h:SnH w X p q)(ha:w.heap[a]? =some (.cells A t (0,0)))(h1:t≠29)(h2:t≠81)(ca:Array Value):SnH (w.setRow a ca) X p q:=by
 have n1:∀ g,p=some ⟨g,0,none⟩→g≠a:=fun g hg e=>by
  obtain⟨B,hB⟩:=h.ts g hg;rw[e,ha] at hB;injection hB with hB;injection hB with _ hB;exact h1 hB
 have n2:∀ g,q=some ⟨g,0,none⟩→g≠a:=fun g hg e=>by
  obtain⟨B,hB⟩:=h.te g hg;rw[e,ha] at hB;injection hB with hB;injection hB with _ hB;exact h2 hB
 refine⟨fun j x hx=>?_,fun j x hx=>?_,fun g hg=>(h.ts g hg).imp fun B hB=>(setRow_other _ _ _ _ (n1 g hg)).trans hB,fun g hg=>(h.te g hg).imp fun B hB=>(setRow_other _ _ _ _ (n2 g hg)).trans hB⟩
 ·obtain⟨g,hg,hc⟩:=h.stk j x hx
  exact⟨g,hg,by rw[cell_setRow_other _ _ _ _ (n1 g hg)];exact hc⟩
 ·obtain⟨g,hg,hc⟩:=h.out j x hx
  exact⟨g,hg,by rw[cell_setRow_other _ _ _ _ (n2 g hg)];exact hc⟩
theorem vF(I:Im)(T:Tp):∀ (n:Nat) (S:Ms),S.out.length+n≤1000000000→(eP I T n S).1.out.length≤1000000000
 | 0,S,h=>by show S.out.length≤_;omega
 | n+1,S,h=>by
  have hr:=jl I T S;cases hs:eQ I T S with
  | ok S'=>
   rw[yx n hs];exact vF I T n S' (by have:=hr.out S' hs;omega)
  | tr k i=>rw[yw n hs];show S.out.length≤_;omega
set_option maxHeartbeats 4000000 in
theorem sS(P:Pl)(I:Im)(T:Tp)(pi pq:Option Addr)(ci cq:Nat)(X:Sn)(p q:Option Addr)(c d:Nat)(most:Int)(w:World)(hI:I.Ok)(hT:T.Ok)(hX:X.Ok)(hp:Has w P I)(h1:Slo w pi (inC T.inn))(h2:Slo w pq (irC T.irq))(h3:SnH w X p q)(ht:iq w)(hm:I64 most)(hl:X.out.length+most.toNat≤1000000000):
  Calls Tryz.prog 14 #[.agg #[.slice P.p0 I.banks.length P.c0,.int .u16 I.en,.int .u16 I.ve,.slice P.p1 I.data.length P.c1,.slice P.p2 I.rel.length P.c2],.agg #[.slice pi T.inn.length ci,.slice pq T.irq.length cq],.agg #[.int .u16 (X.r 0),.int .u16 (X.r 1),.int .u16 (X.r 2),.int .u16 (X.r 3),.int .u16 (X.r 4),.int .u16 (X.r 5),.int .u16 (X.r 6),.int .u16 (X.r 7),.int .u16 X.pc,.int .u16 X.sp,.int .u16 X.fp,.int .u16 X.f,.int .i64 X.aF,.int .i64 X.steps,.int .i64 X.inp,.int .i64 X.pol,.string X.ram,.slice p X.stk.length c,.slice q X.out.length d],.int .i64 most] w fun e w'=>(kK w.heap.size (au (eP I T most.toNat (aQ X)).1) (eP I T most.toNat (aQ X)).2.1 (eP I T most.toNat (aQ X)).2.2 e w'∧OkE (eP I T most.toNat (aQ X)).1)∧Below w.heap.size w w':=by
 have HX:=GM w #[.slice P.p0 I.banks.length P.c0,.int .u16 I.en,.int .u16 I.ve,.slice P.p1 I.data.length P.c1,.slice P.p2 I.rel.length P.c2] #[.slice pi T.inn.length ci,.slice pq T.irq.length cq] #[.int .u16 (X.r 0),.int .u16 (X.r 1),.int .u16 (X.r 2),.int .u16 (X.r 3),.int .u16 (X.r 4),.int .u16 (X.r 5),.int .u16 (X.r 6),.int .u16 (X.r 7),.int .u16 X.pc,.int .u16 X.sp,.int .u16 X.fp,.int .u16 X.f,.int .i64 X.aF,.int .i64 X.steps,.int .i64 X.inp,.int .i64 X.pol,.string X.ram,.slice p X.stk.length c,.slice q X.out.length d] #[.int .u16 0,.int .u16 0,.int .u16 0,.int .u16 0,.int .u16 0,.int .u16 0,.int .u16 0,.int .u16 0,.int .u16 0,.int .u16 0,.int .u16 0,.int .u16 0,.int .i64 0,.int .i64 0,.int .i64 0,.int .i64 0,.string ⟨#[]⟩,.slice none 0 0,.slice none 0 0] #[.int .i64 0,.int .u16 0];have R0:=aH HX.h0 (imL P I) (fun j v hv=>by rw[← hv];simp[imL]);have R1:=aH HX.h1 (tpL T pi ci pq cq) (fun j v hv=>by rw[← hv];simp[tpL]);have R2:=aH HX.h2 (snL X p c q d) (fun j v hv=>by rw[← hv];simp[snL]);have HR:=Nc (And.intro R0 (And.intro R1 R2));have HBel:=Nc HX.bel;have hbw:∀ {W':World},Below w.heap.size w W'→Has W' P I∧Slo W' pi (inC T.inn)∧Slo W' pq (irC T.irq)∧SnH W' X p q∧iq W':=fun hb=>⟨hp.below hb,h1.below hb,h2.below hb,h3.below hb,bF (by obtain⟨_,_,h⟩:=ht;exact lt_of_block h) ht hb⟩
 have HBx:=hbw HX.bel;have hload:=qy P I T pi pq ci cq X p q c d _ hI hT hX HBx.1 HBx.2.1 HBx.2.2.1 HBx.2.2.2.1 HBx.2.2.2.2 (by unfold iK;omega);have HLoad:=Nc hload;have HBox:=Nc HX;have HLen:=Nc hl;have HMx:=Nc hm;clear hload hI hT hX hp h1 h2 h3 ht hbw HBx R0 R1 R2 HX hl hm;go_enter Tryz.func14,Tryz.ntmps14
 go_wp2_with (first
  | refine wpList_load_mid rfl 33 _ rfl w.heap.size 0 rfl (imL P I) _ HR.out.1 Tryz.underlying33 rfl dP ?_
  | refine wpList_load_mid rfl 43 _ rfl (w.heap.size+1) 0 rfl (tpL T pi ci pq cq) _ HR.out.2.1 Tryz.underlying43 rfl iy ?_
  | refine wpList_load_mid rfl 40 _ rfl (w.heap.size+2) 0 rfl (snL X p c q d) _ HR.out.2.2 Tryz.underlying40 rfl aU ?_)
 refine HLoad.out.mono ?_;rintro e w1 ⟨E,ov,rfl,hE0,hEI,hET,hm1,hz1⟩;obtain⟨W0,hW0⟩:∃ W0,(((((w.alloc (.cells #[.slice P.p0 I.banks.length P.c0,.int .u16 I.en,.int .u16 I.ve,.slice P.p1 I.data.length P.c1,.slice P.p2 I.rel.length P.c2] 33)).alloc (.cells #[.slice pi T.inn.length ci,.slice pq T.irq.length cq] 43)).alloc (.cells #[.int .u16 (X.r 0),.int .u16 (X.r 1),.int .u16 (X.r 2),.int .u16 (X.r 3),.int .u16 (X.r 4),.int .u16 (X.r 5),.int .u16 (X.r 6),.int .u16 (X.r 7),.int .u16 X.pc,.int .u16 X.sp,.int .u16 X.fp,.int .u16 X.f,.int .i64 X.aF,.int .i64 X.steps,.int .i64 X.inp,.int .i64 X.pol,.string X.ram,.slice p X.stk.length c,.slice q X.out.length d] 40)).alloc (.cells #[.int .u16 0,.int .u16 0,.int .u16 0,.int .u16 0,.int .u16 0,.int .u16 0,.int .u16 0,.int .u16 0,.int .u16 0,.int .u16 0,.int .u16 0,.int .u16 0,.int .i64 0,.int .i64 0,.int .i64 0,.int .i64 0,.string ⟨#[]⟩,.slice none 0 0,.slice none 0 0] 40)).alloc (.cells #[.int .i64 0,.int .u16 0] 47))=W0:=⟨_,rfl⟩;rw[hW0] at HBox HBel hE0;have HM1:=Nc hm1;have HZ:=Nc hz1;have HE0:=Nc hE0;have HEI:=Nc hEI;have HET:=Nc hET;have HB1:=Nc (hE0▸hm1.bel);clear HLoad HR hW0 hm1 hz1 hE0 hEI hET;go_wp2_with fail
 refine(run_any E ov (aQ X) most w1 HM1.out HZ.out HMx.out HLen.out).mono ?_;rintro e w2 ⟨rfl,ov2,S2,hm2,hq2,hf2⟩;rw[HEI.out,HET.out] at hq2⊢;have hlen2:iK S2.out:=by
  unfold iK;rw[hq2.out];exact vF I T most.toNat (aQ X) HLen.out
 obtain⟨⟨S1,k,i⟩,hrun⟩:∃ r,eP I T most.toNat (aQ X)=r:=⟨_,rfl⟩;rw[hrun] at hq2⊢;clear hf2;simp only at hq2⊢;have hm3:=hm2.alloc (.cells #[.int .i64 k,.int .u16 i] 47);have ht3:=heap_alloc_new w2 (.cells #[.int .i64 k,.int .u16 i] 47);have HSz:Hid ((w2.alloc (.cells #[.int .i64 k,.int .u16 i] 47)).heap.size=w2.heap.size+1):=Nc (by simp);have HB3:=Nc (show Below W0.heap.size W0 (w2.alloc (.cells #[.int .i64 k,.int .u16 i] 47)) from(by have h:=hm3.bel;rw[HE0.out] at h;exact h));have HRun:=Nc hrun;have HQ:=Nc hq2;have HSp:=Nc hlen2;unfold iL;clear hrun hq2 hm2 hlen2 HM1 HB1 HZ;go_wp2_with fail
 obtain⟨w3,hw3⟩:∃ w3,w2.alloc (.cells #[.int .i64 k,.int .u16 i] 47)=w3:=⟨_,rfl⟩;rw[hw3] at hm3 ht3 HSz HB3;rw[hw3];obtain⟨B,hB⟩:∃ B,w2.heap.size=B:=⟨_,rfl⟩;rw[hB] at ht3 HSz;rw[hB];have M3:=Nc hm3;have HT3:=Nc ht3;have HSnap:=Nc (fun W (hW:Mc E ov2 S2 W)=>pK E ov2 S2 W hW HSp.out);have hS3:=Nc (show w3.drew.heap[B]? =some (.cells #[.int .i64 k,.int .u16 i] 47 (0,0)) from ht3);clear hw3 hB hm3 ht3;refine wp_region_held_drew (S:=fun w'=>w'.heap[B]? =some (.cells #[.int .i64 k,.int .u16 i] 47 (0,0))) (by kernel_rfl) (hS3.out) (fun hHeld=>?_);refine tq 0 rfl ?_;refine tk 2 _ rfl (yieldsIf_load_mid (by rfl) 47 _ rfl B 0 rfl [.int .i64 k,.int .u16 i] _ (fun w hw=>aH hw _ (fun j v hv=>by rw[← hv];simp)) Tryz.underlying47 rfl dV) ?_;refine rd1 1 rfl (fun K hK=>?_);go_simp
 ((go_at_call 35;(with_reducible refine(HSnap.out _ M3.out.drew).mono ?_));rintro e w4 ⟨⟨p1,c1,q1,d1,rfl,hs1,hf1,hf2,hcp⟩,hb4⟩;have HCap:=Nc hcp;clear hcp;have HB4:=Nc hb4;have HS4:=Nc hs1;have HF4:=Nc (And.intro hf1 hf2);have K4:=Nc (af (show w3.drew.heap[B]? =_ from HT3.out) hb4);clear hs1 hf1 hf2 hb4)
 go_wp2_with fail
 refine hK.out _ _ (K4.out) (fun hHeld=>?_);clear hK K
 try simp only[lay]
 have hsz4:w3.heap.size≤w4.heap.size:=HB4.out.size;have hBlt:W0.heap.size≤B:=by have h1:=HB3.out.size;have h2:=HSz.out;have h3:=lt_of_block HT3.out;have h4:=M3.out.lt;have h5:=M3.out.env;have:=HE0.out;have h6:=h5.lo;have h7:=h5.mp0;have h8:=h5.mp1;have h9:=h5.b;rw[this] at h6;omega
 have n3:=HBox.out.size;have hb04:Below W0.heap.size W0 w4:=HB3.out.drew.trans (HB4.out.mono HB3.out.size);have g3:=af HBox.out.h3 hb04;have g4:=af HBox.out.h4 hb04;have f3:=setRow_heap w4 (w.heap.size+3) _ (snA (au S2) p1 c1 q1 d1) 40 (0,0) g3;have f4:(w4.setRow (w.heap.size+3) (snA (au S2) p1 c1 q1 d1)).heap[w.heap.size+4]? =_:=(setRow_other w4 (w.heap.size+3) _ _ (by omega)).trans g4;have f5:=setRow_heap _ (w.heap.size+4) _ #[.int .i64 k,.int .u16 i] 47 (0,0) f4;have f6:((w4.setRow (w.heap.size+3) (snA (au S2) p1 c1 q1 d1)).setRow (w.heap.size+4) #[.int .i64 k,.int .u16 i]).heap[w.heap.size+3]? =_:=(setRow_other _ (w.heap.size+4) _ _ (by omega)).trans f3;have kB:(w4.setRow (w.heap.size+3) (snA (au S2) p1 c1 q1 d1)).heap[B]? =some (.cells #[.int .i64 k,.int .u16 i] 47 (0,0)):=(setRow_other w4 (w.heap.size+3) _ _ (by omega)).trans K4.out;have kB2:((w4.setRow (w.heap.size+3) (snA (au S2) p1 c1 q1 d1)).setRow (w.heap.size+4) #[.int .i64 k,.int .u16 i]).heap[B]? =some (.cells #[.int .i64 k,.int .u16 i] 47 (0,0)):=(setRow_other _ (w.heap.size+4) _ _ (by omega)).trans kB;have hs6:=HS4.out.set2 (N:=w3.drew.heap.size) HF4.out.1 HF4.out.2 (a:=w.heap.size+3) (b:=w.heap.size+4) (by show _ < w3.heap.size;have:=HB3.out.size;omega) (by show _ < w3.heap.size;have:=HB3.out.size;omega) (snA (au S2) p1 c1 q1 d1) #[.int .i64 k,.int .u16 i];have hb6:Below w.heap.size w ((w4.setRow (w.heap.size+3) (snA (au S2) p1 c1 q1 d1)).setRow (w.heap.size+4) #[.int .i64 k,.int .u16 i]):=below_setRow (below_setRow (HBel.out.trans (hb04.mono HBel.out.size)) (by omega) _) (by omega) _;have HFin:=Nc (And.intro hs6 (And.intro hb6 (And.intro f5 f6)));have HF2:=Nc (And.intro (show From w.heap.size p1 from fun g hg=>Nat.le_trans (Nat.le_trans HBel.out.size HB3.out.size) (HF4.out.1 g hg)) (show From w.heap.size q1 from fun g hg=>Nat.le_trans (Nat.le_trans HBel.out.size HB3.out.size) (HF4.out.2 g hg)));have HK1:=Nc kB;have HK2:=Nc kB2;have HG3:=Nc (And.intro g3 f4);clear f3 f4 f5 f6 kB kB2 hs6 hb6 g3 g4 hb04 hBlt hsz4 n3 hHeld;refine rd1 3 rfl (fun K hK=>?_);refine Eq.mpr (if_pos (by rfl)) ?_;refine wp_store_row 40 _ _ rfl (w.heap.size+3) (snA (au S2) p1 c1 q1 d1) rfl rfl 40 _ HG3.out.1 aU (by rfl) (by simp[snA,Value.oneCell']) ?_;refine hK.out _ _ (HK1.out) (fun hHeld=>?_);clear hK K
 try simp only[lay]
 refine rd1 4 rfl (fun K hK=>?_);refine Eq.mpr (if_pos (by rfl)) ?_;refine wp_store_row 47 _ _ rfl (w.heap.size+4) #[.int .i64 k,.int .u16 i] rfl rfl 47 _ HG3.out.2 dV (by rfl) (by simp[Value.oneCell']) ?_;refine hK.out _ _ (HK2.out) (fun hHeld=>?_);clear hK K
 try simp only[lay]
 refine wpAnyH_done (by kernel_rfl) ?_ _;clear hHeld;go_wp2_with fail
 refine bodyPost_ret (v:= .tuple #[.agg (snA (au S2) p1 c1 q1 d1),.agg #[.int .i64 k,.int .u16 i]]) (fF rfl _ _ (w.heap.size+3) (w.heap.size+4) 40 47 _ _ (0,0) (0,0) rfl rfl HFin.out.2.2.2 HFin.out.2.2.1 Tryz.underlying40 aU Tryz.underlying47 dV) rfl ?_;rw[HRun.out];exact⟨⟨⟨p1,c1,q1,d1,by rw[← HQ.out.snA];rfl,HQ.out.snH HFin.out.1,HF2.out.1,HF2.out.2,HQ.out.EW▸HCap.out⟩,⟨_,HQ.out,M3.out.ok⟩⟩,HFin.out.2.1⟩
theorem D8(P:Pl)(I:Im)(T:Tp)(pi pq:Option Addr)(ci cq:Nat)(X:Sn)(p q:Option Addr)(c d:Nat)(most:Int)(w:World)(hI:I.Ok)(hT:T.Ok)(hX:X.Ok)(hp:Has w P I)(h1:Slo w pi (inC T.inn))(h2:Slo w pq (irC T.irq))(h3:SnH w X p q)(ht:iq w)(hm:I64 most)(hl:X.out.length+most.toNat≤1000000000):
  Calls Tryz.prog 14 #[.agg #[.slice P.p0 I.banks.length P.c0,.int .u16 I.en,.int .u16 I.ve,.slice P.p1 I.data.length P.c1,.slice P.p2 I.rel.length P.c2],.agg #[.slice pi T.inn.length ci,.slice pq T.irq.length cq],.agg #[.int .u16 (X.r 0),.int .u16 (X.r 1),.int .u16 (X.r 2),.int .u16 (X.r 3),.int .u16 (X.r 4),.int .u16 (X.r 5),.int .u16 (X.r 6),.int .u16 (X.r 7),.int .u16 X.pc,.int .u16 X.sp,.int .u16 X.fp,.int .u16 X.f,.int .i64 X.aF,.int .i64 X.steps,.int .i64 X.inp,.int .i64 X.pol,.string X.ram,.slice p X.stk.length c,.slice q X.out.length d],.int .i64 most] w fun e w'=>kK w.heap.size (au (eP I T most.toNat (aQ X)).1) (eP I T most.toNat (aQ X)).2.1 (eP I T most.toNat (aQ X)).2.2 e w'∧Below w.heap.size w w':=(sS P I T pi pq ci cq X p q c d most w hI hT hX hp h1 h2 h3 ht hm hl).mono fun e w' h=>⟨h.1.1,h.2⟩
end Go.Proofs.YthkcloapiefggaaGreatDoor
