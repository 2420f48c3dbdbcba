import Derived.Test.YthkcloapiefggaaGreatDoorQPrt
import Derived.Test.YthkcloapiefggaaGreatDoorQJmp
import Derived.Deep.AppendLies
namespace Go.Proofs.YthkcloapiefggaaGreatDoor
set_option linter.unusedVariables false
set_option linter.unusedSimpArgs false
set_option maxRecDepth 100000
set_option maxHeartbeats 1000000
open Go.ChangeShapes Go.WideShapes Go.RowKit
structure Fro(E:Env)(ov:Value)(w:World)(ov':Value)(w':World):Prop where
 size:w.heap.size≤w'.heap.size
 blk:∀ k,k < w.heap.size→k≠E.b→rowOf ov≠some k→w'.heap[k]? =w.heap[k]?
 new:rowOf ov'=rowOf ov∨∀ g,rowOf ov'=some g→w.heap.size≤g
theorem Fro.gb{E:Env}{w w':World}(ov:Value)(h:w.grownBy w' (some E.b)):Fro E ov w ov w':=⟨h.size,fun k hk hne _=>h.block k hk (by simpa using hne),.inl rfl⟩
theorem Fro.trans{E:Env}{ov ov1 ov2:Value}{w w1 w2:World}(h:Fro E ov w ov1 w1)(g:Fro E ov1 w1 ov2 w2):Fro E ov w ov2 w2:=by
 refine⟨Nat.le_trans h.size g.size,fun k hk hne hr=>(g.blk k (Nat.lt_of_lt_of_le hk h.size) hne ?_).trans (h.blk k hk hne hr),?_⟩
 ·rcases h.new with e|e
  ·rw[e];exact hr
  ·intro c;have:=e k c;omega
 ·rcases g.new with e|e
  ·rw[e];exact h.new
  ·exact .inr fun x hx=>Nat.le_trans h.size (e x hx)
def aY(E:Env)(ov:Value)(S:Ms)(w:World)(R:Rs)(e:Ending)(w':World):Prop:=
 match R with
 | .ok S'=>e= .returned (.tuple #[])∧∃ ov',Mc E ov' S' w'∧Fro E ov w ov' w'
 | .tr k i=>e= .panicked (dQ k i)∧∃ S',Mc E ov S' w'∧Kp S S'∧Fro E ov w ov w'
theorem aY.of{E:Env}{ov:Value}{S:Ms}{w w':World}{R:Rs}{e:Ending}(h:Post E ov S w R e w'):aY E ov S w R e w':=by
 cases R with
 | ok S'=>exact⟨h.1,ov,h.2.1,Fro.gb ov h.2.2⟩
 | tr k i=>obtain⟨h0,S',h1,h2,h3⟩:=h;exact⟨h0,S',h1,h2,Fro.gb ov h3⟩
theorem aY.okk{E:Env}{ov ov':Value}{S S':Ms}{w w':World}{R:Rs}{e:Ending}(hR:R= .ok S')(he:e= .returned (.tuple #[]))(hm:Mc E ov' S' w')(hg:Fro E ov w ov' w'):aY E ov S w R e w':=by
 subst hR;exact⟨he,ov',hm,hg⟩
theorem uw:(Tryz.prog.info? 81).map (fun i=>(i.zero,i.size,i.bytes))=some (some (.agg #[.int .u16 0,.int .u16 0]),2,4):=by kernel_rfl
theorem iC(l:List (Int × Int)):(evC l).length=2*l.length:=by
 induction l with
 | nil=>rfl
 | cons e r ih=>rw[show evC (e::r)= .int .u16 e.1:: .int .u16 e.2::evC r from rfl];simp[ih];omega
theorem xW(l:List (Int × Int))(p v:Int):evC (l++[(p,v)])=evC l++[.int .u16 p,.int .u16 v]:=by unfold evC;simp
theorem jY(w:World)(ov:Value)(l:List (Int × Int))(hev:Evs w ov l)(nb c:Nat)(p v:Int)(h0:w.cell? ⟨nb,0,none⟩=some (.int .u16 p))(h1:w.cell? ⟨nb,1,none⟩=some (.int .u16 v))(hn:l.length≤1000000000):
  ∃ g cap w',(Builtin.append_ #[38,38] 38 #[ov,.slice (some ⟨nb,0,none⟩) 1 c]).run Tryz.prog w= .ok (.slice (some ⟨g,0,none⟩) (l.length+1) cap) w'∧
   Evs w' (.slice (some ⟨g,0,none⟩) (l.length+1) cap) (l++[(p,v)])∧w.grownBy w' (rowOf ov)∧(rowOf ov=some g∨g=w.heap.size)∧rowOf (.slice (some ⟨g,0,none⟩) (l.length+1) cap)=some g:=by
 have hnews:∀ j u,([.int .u16 p,.int .u16 v]:List Value)[j]? =some u→w.cell? ((⟨nb,0,none⟩:Addr).add j)=some u:=by
  intro j u hj
  match j with
  | 0=>simp at hj;subst hj;exact h0
  | 1=>simp at hj;subst hj;exact h1
  | j+2=>simp at hj
 have hone:∀ u∈([.int .u16 p,.int .u16 v]:List Value),u.oneCell'=true:=by intro u hu;simp at hu;rcases hu with rfl | rfl<;>rfl
 obtain⟨i0,hi,hz0,hz1,hz2⟩:∃ i0,Tryz.prog.info? 81=some i0∧i0.zero=some (.agg #[.int .u16 0,.int .u16 0])∧i0.size=2∧i0.bytes=4:=by
  have h:=uw;cases hi:Tryz.prog.info? 81 with
  | none=>rw[hi] at h;cases h
  | some i=>rw[hi] at h;simp only[Option.map_some,Option.some.injEq,Prod.mk.injEq] at h;exact⟨i,rfl,h.1,h.2.1,h.2.2⟩
 have fin:∀ (base:Nat) (w0 w':World) (g cap:Nat),w'.ownsRow base 81 2 (.slice (some ⟨g,0,none⟩) (l.length+1) cap) (l.length+1) (evC l++[.int .u16 p,.int .u16 v])→
   Evs w' (.slice (some ⟨g,0,none⟩) (l.length+1) cap) (l++[(p,v)])∧rowOf (.slice (some ⟨g,0,none⟩) (l.length+1) cap)=some g:=by
  intro base w0 w' g cap hown;have hc:0 < cap:=by
   rcases hown.2 with⟨h,_⟩|⟨g',cap',cur,hv,_,_,hnc,_⟩
   ·cases h
   ·injection hv with _ _ h3;omega
  have hr:rowOf (.slice (some ⟨g,0,none⟩) (l.length+1) cap)=some g:=by unfold rowOf;simp;omega
  refine⟨.inr ⟨?_,by rw[hr];rfl⟩,hr⟩;rw[xW,show(l++[(p,v)]).length=l.length+1 by simp];refine⟨hown.1,?_⟩;rcases hown.2 with h|⟨g',cap',cur,hv,hb,rest⟩
  ·exact .inl h
  ·exact .inr ⟨g',cap',cur,hv,Nat.zero_le _,rest⟩
 have own:∀ v0,w.ownsRow 0 81 2 v0 l.length (evC l)→v0.ownBlock=rowOf v0→∃ g cap w',(Builtin.append_ #[38,38] 38 #[v0,.slice (some ⟨nb,0,none⟩) 1 c]).run Tryz.prog w= .ok (.slice (some ⟨g,0,none⟩) (l.length+1) cap) w'∧
   Evs w' (.slice (some ⟨g,0,none⟩) (l.length+1) cap) (l++[(p,v)])∧w.grownBy w' (rowOf v0)∧(rowOf v0=some g∨g=w.heap.size)∧rowOf (.slice (some ⟨g,0,none⟩) (l.length+1) cap)=some g:=by
  intro v0 hown hb;obtain⟨g,cap,w',hr,ho,hg,hd,_⟩:=run_append_lies (P:=Tryz.prog) w 38 38 0 81 i0 _ 2 4 Tryz.underlying38 hi hz0 hz1 hz2 rfl (by decide) v0 l.length (evC l) hown
   ⟨nb,0,none⟩ 1 c [.int .u16 p,.int .u16 v] rfl hnews hone (by decide) (by unfold maxLen;omega) (by omega) (Nat.zero_le _) _ rfl
  obtain⟨f1,f2⟩:=fin 0 w w' g cap ho;exact⟨g,cap,w',hr,f1,hb▸hg,hb▸hd,f2⟩
 rcases hev with⟨q,rfl,rfl⟩|⟨hown,hb⟩
 ·cases q with
  | none=>exact own (.slice none 0 0) (World.ownsRow_nil w 0 _ 2) rfl
  | some ad=>
   have hr:=run_append_grow (P:=Tryz.prog) w 38 38 81 i0 _ Tryz.underlying38 hi hz0 ad 0 0 [] (by simp) (by simp) ⟨nb,0,none⟩ 1 c [.int .u16 p,.int .u16 v] (by rw[hz1];rfl) hnews (by decide) (by decide) (by rw[hz2];exact growslice_fits (by decide) (by decide));have hge:=grownCap_ge w (0+1) 0 81;have hcm:=grownCap_le_maxLen w (0+1) 0 81 (by decide);obtain⟨cap,hcap⟩:∃ cap,grownCap w (0+1) 0 81=cap:=⟨_,rfl⟩;rw[hcap] at hr hge hcm;have ho:(w.drew.alloc (.cells (([]:List Value).toArray++([.int .u16 p,.int .u16 v]:List Value).toArray++Builtin.zeroCells (Value.agg #[.int .u16 0,.int .u16 0]).cells (cap-(0+1))) 81)).ownsRow 0 81 2 (.slice (some ⟨w.heap.size,0,none⟩) (0+1) cap) (0+1) ([.int .u16 p,.int .u16 v]):=by
    refine⟨rfl,.inr ⟨w.heap.size,cap,_,rfl,Nat.zero_le _,heap_alloc_new w.drew _,hge,hcm,?_,?_⟩⟩
    ·simp only[Array.size_append,List.size_toArray,size_zeroCells,List.length_nil,List.length_cons]
     rw[show(Value.agg #[.int .u16 0,.int .u16 0]).cells.size=2 from rfl];omega
    ·simp
   obtain⟨f1,f2⟩:=fin 0 w _ w.heap.size cap ho;exact⟨w.heap.size,cap,_,hr,f1,⟨rfl,rfl,rfl,by simp,fun k hk _=>heap_alloc_old w.drew _ hk⟩,.inr rfl,f2⟩
 ·exact own ov hown hb
theorem lN(w:World){ops:Array Oper}{rest:List Oper}{o:Oper}{a:Act}{Q:Exit→Act→World→Prop}(hgd:o.guard=none)(s x:Operand)
  (ho:o.op= .call {callee:= .builtin .append,args:=#[s,x],argTypes:=#[38,38]}) (hty:o.type=38)
  (ov:Value) (l:List (Int × Int)) (hs:a.eval s=ov) (hev:Evs w ov l) (nb c:Nat) (hx:a.eval x= .slice (some ⟨nb,0,none⟩) 1 c) (p v:Int) (h0:w.cell? ⟨nb,0,none⟩=some (.int .u16 p)) (h1:w.cell? ⟨nb,1,none⟩=some (.int .u16 v)) (hn:l.length≤1000000000)
  (h:∀ g cap w',Evs w' (.slice (some ⟨g,0,none⟩) (l.length+1) cap) (l++[(p,v)])→w.grownBy w' (rowOf ov)→(rowOf ov=some g∨g=w.heap.size)→rowOf (.slice (some ⟨g,0,none⟩) (l.length+1) cap)=some g→
   wpList Tryz.prog ops Q rest (a.put o.dst (.slice (some ⟨g,0,none⟩) (l.length+1) cap)) w'):wpList Tryz.prog ops Q (o::rest) a w:=by
 obtain⟨g,cap,w',hr,f1,f2,f3,f4⟩:=jY w ov l hev nb c p v h0 h1 hn;refine wpList_plain hgd fun K hK=>?_
 unfold Oper.wp execOp;simp only[ho,hty,resolve,invoke,builtin,Sem.run_bind,Sem.run_pure,Result.andThen_ok,List.map_toArray,List.map_cons,List.map_nil,hs,hx,hr];exact hK _ _ (h g cap w' f1 f2 f3 f4)
theorem Mc.Ir{E:Env}{ov ov':Value}{S:Ms}{w w':World}(h:Mc E ov S w)(hg:w.grownBy w' (rowOf ov))(l:List (Int × Int))(hev:Evs w' ov' l)(hl:∀ e∈l,U16 e.1∧U16 e.2)(ho:OwnB E ov'):
  Mc E ov' {S with out:=l} (w'.setCell ⟨E.b,12311,none⟩ ov'):=by
 have hrow:∀ k,rowOf ov=some k→E.w0.heap.size≤k∧(k < E.lo∨E.hi≤k)∧k≠E.b:=h.own;have h0:=h.env.b;have h1:=h.env.lo;have h2:=h.env.mp0;have h3:=h.env.mp1;have hlt:=h.lt;have hb:Below E.w0.heap.size E.w0 w':=h.bel.grown hg (by omega) (fun k hk=>(hrow k hk).1);have hblk:w'.heap[E.b]? =w.heap[E.b]? :=hg.block E.b hlt (fun e=>(hrow E.b e.symm).2.2 rfl);have hs:=grown_setCell w' E.b 12311 ov';have hlt':E.b < w'.heap.size:=Nat.lt_of_lt_of_le hlt hg.size;refine⟨{h.ok with out:=hl},h.env,hb.setCell (p:=⟨E.b,12311,none⟩) (by show E.w0.heap.size≤E.b;omega) _,fun k k0 k1=>?_,?_,?_,ho⟩
 ·refine(hs.block k (by omega) (by simp;omega)).trans ((hg.block k (by omega) (fun e=>?_)).trans (h.mid k k0 k1))
  have:=hrow k e.symm;omega
 ·obtain⟨A,a1,a2,a3⟩:=h.blk
  refine⟨_,bP w' E.b 12311 ov' _ _ _ (hblk.trans a1),by simpa using a2,fun i hi=>?_⟩;rw[Array.getElem?_setIfInBounds];by_cases e:12311=i
  ·subst e
   rw[if_pos rfl,if_pos (by omega)];rfl
  ·rw[if_neg e,a3 i hi]
   unfold mcV;by_cases c1:i < 23
   ·rw[if_pos c1,if_pos c1];rfl
   rw[if_neg c1,if_neg c1];by_cases c2:i < 8215
   ·rw[if_pos c2,if_pos c2]
   rw[if_neg c2,if_neg c2];by_cases c3:i < 12311
   ·rw[if_pos c3,if_pos c3]
   rw[if_neg c3,if_neg c3,if_neg (Ne.symm e),if_neg (Ne.symm e)]
 ·exact hev.grown hs (Or.inr fun e=>(ho _ e).2.2 rfl)
def iK(l:List (Int × Int)):Prop:=l.length≤1000000000
theorem xy(E:Env)(ov:Value)(S:Ms)(p n:Int)(w:World)(h:Mc E ov S w)(hp:U16 p)(hn:U16 n)(hl:iK S.out):
  Calls Tryz.prog 151 #[.pointer (some ⟨E.b,0,none⟩),.int .u16 p,.int .u16 n] w fun e w'=>aY E ov S w (.ok (oO S p n)) e w':=by
 have H:=Nc h;have c19:=h.c19;have cO:=h.cOut;have hf:=h.frz;have HS:=Nc (show oO S p n=if p=0 then {S with aF:=n%64} else {S with out:=S.out++[(p,n)]} from rfl);obtain⟨S',hs⟩:∃ S',oO S p n=S':=⟨_,rfl⟩;rw[hs] at HS⊢;have hn0:=hn.1;have hn1:=hn.2;have HP:=Nc (And.intro hp hn);clear h hs;by_cases q:p=0
 ·have HS1:=Nc (HS.out.trans (if_pos q))
  have HX:=Nc (H.out.fQ (n%64) (wu n));subst q;clear HS;go_enter Tryz.func151,Tryz.ntmps151
  go_wp2_with fail
  refine(iV n _ hn0 hn1).mono ?_;rintro e w1 ⟨rfl,rfl⟩;go_wp2_with fail
  go_end0
  exact aY.okk rfl rfl (HS1.out▸HX.out) (Fro.gb ov (ag (ah _ _) _ _))
 ·have HS1:=Nc (HS.out.trans (if_neg q))
  have r0:(p==0)=false:=by simpa using q
  have HL:=Nc hl;have HA:=Nc (H.out.alloc (.cells #[.int .u16 p,.int .u16 n] 81));have hn1:=heap_alloc_new w (.cells #[.int .u16 p,.int .u16 n] 81);have HN:=Nc (And.intro (ae hn1 0 (.int .u16 p) rfl) (ae hn1 1 (.int .u16 n) rfl));clear HS q hn1 hl;go_enter Tryz.func151,Tryz.ntmps151
  go_wp2_with (at_builtin;refine lN _ rfl _ _ rfl rfl ov S.out rfl HA.out.out w.heap.size _ rfl p n HN.out.1 HN.out.2 HL.out ?_)
  intro g cap w2 hev hg hd hr;have HO:Hid (OwnB E (.slice (some ⟨g,0,none⟩) (S.out.length+1) cap)):=Nc (fun x hx=>by
   rw[hr] at hx;injection hx with hx;subst hx;rcases hd with hd|hd
   ·exact H.out.own g hd
   ·have h0:=H.out.env.b;have h1:=H.out.env.lo;have h2:=H.out.env.mp0;have h3:=H.out.env.mp1;have h4:=H.out.lt
    try simp at hd
    exact⟨by omega,by omega,by omega⟩)
  have HX:=Nc (HA.out.Ir hg (S.out++[(p,n)]) hev (fun e he=>by
   rcases List.mem_append.1 he with he|he
   ·exact H.out.ok.out e he
   ·simp at he;subst he;exact HP.out) HO.out)
  have HF:Hid (Fro E ov w (.slice (some ⟨g,0,none⟩) (S.out.length+1) cap) (w2.setCell ⟨E.b,12311,none⟩ (.slice (some ⟨g,0,none⟩) (S.out.length+1) cap))):=Nc ⟨by have:=hg.size;simp at this⊢;omega,
   fun k hk hne hrr=>(dn _ ⟨E.b,12311,none⟩ _ k hne).trans ((hg.block k (by simp;omega) (fun e=>hrr e.symm)).trans (heap_alloc_old w _ hk)),by
    rcases hd with hd|hd
    ·exact .inl (hr.trans hd.symm)
    ·refine .inr fun x hx=>?_
     rw[hr] at hx;injection hx with hx;subst hx
     try simp at hd
     omega⟩
  have cO':w2.cell? ⟨E.b,12311,none⟩=some ov:=(World.cell?_of_block (a:=⟨E.b,12311,none⟩) (hg.block E.b (by have:=H.out.lt;simp;omega) (fun e=>(H.out.own E.b e.symm).2.2 rfl))).trans HA.out.cOut;have hf':∀ j,w2.frozen? ⟨E.b,j,none⟩=false:=fun j=>(World.frozen?_of_block (a:=⟨E.b,j,none⟩) (hg.block E.b (by have:=H.out.lt;simp;omega) (fun e=>(H.out.own E.b e.symm).2.2 rfl))).trans (HA.out.frz j)
  clear hev hg hd hr cO hf c19;go_wp2_with fail
  go_end0
  exact aY.okk rfl rfl (HS1.out▸HX.out) HF.out
theorem Mc.BG{E:Env}{ov:Value}{S:Ms}{w:World}(h:Mc E ov S w)(g:Nat)(hg:rowOf ov=some g):g < w.heap.size:=by
 rcases h.out with⟨p,rfl,_⟩|⟨hown,hb⟩
 ·cases p<;>simp[rowOf] at hg
 ·exact(hown.lt g (hb.trans hg)).2
theorem Fro.cell{E:Env}{ov ov':Value}{w w':World}(h:Fro E ov w ov' w'){n j:Nat}{x:Value}(hc:w.cell? ⟨n,j,none⟩=some x)(hne:E.b≠n)(hr:rowOf ov≠some n):w'.cell? ⟨n,j,none⟩=some x:=
 (World.cell?_of_block (a:=⟨n,j,none⟩) (h.blk n (World.block_lt_of_cell? _ _ hc) (Ne.symm hne) hr)).trans hc
theorem Ec(E:Env)(ov:Value)(S:Ms)(k:Nat)(s im ax bk sz:Int)(w:World)(h:Mc E ov S w)(hd:k < 8)(hm:U16 im):
  Calls Tryz.prog 112 #[.pointer (some ⟨E.b,0,none⟩),.agg #[.int .i64 144,.int .i64 (k:Int),.int .i64 s,.int .u16 im,.int .u16 ax,.int .i64 bk,.int .i64 sz]] w fun e w'=>Post E ov S w (.ok (inP E.T S k im)) e w':=by
 have hlt:=h.lt;have hne:E.b≠w.heap.size:=by omega
 have HI:=Nc (aG w 144 (k:Int) s im ax bk sz);have H:=Nc (h.alloc (.cells #[.int .i64 144,.int .i64 (k:Int),.int .i64 s,.int .u16 im,.int .u16 ax,.int .i64 bk,.int .i64 sz] 58));have HG:=Nc (aJ (ah w (some E.b)) (.cells #[.int .i64 144,.int .i64 (k:Int),.int .i64 s,.int .u16 im,.int .u16 ax,.int .i64 bk,.int .i64 sz] 58));have HW:=Nc (show(w.alloc (.cells #[.int .i64 144,.int .i64 (k:Int),.int .i64 s,.int .u16 im,.int .u16 ax,.int .i64 bk,.int .i64 sz] 58)).heap.size=w.heap.size+1 by simp);have hk8:(k:Int) < 8:=by omega
 obtain⟨n0,n1,n2,n3,n4,n5,n6⟩:=HI.out;have hS1:=Nc (And.intro n1 n3);have HC:=Nc (fun W (hw:Mc E ov S W)=>zV E ov S im W hw hm);have HV:=Nc (IG (S:=S) h.env.T im);have HR:=Nc (Jd E.T S k im);obtain⟨v,hv⟩:∃ v,rdV E.T S im=v:=⟨_,rfl⟩;obtain⟨S1,hs1⟩:∃ S1,rdS E.T S im=S1:=⟨_,rfl⟩;rw[hv] at HC HV HR;rw[hs1] at HC HR;clear h hv hs1;go_enter Tryz.func112,Tryz.ntmps112
 go_wp2_with fail
 refine wp_region_held_drew (S:=fun w'=>w'.cell? ⟨w.heap.size,1,none⟩=some (.int .i64 (k:Int))∧w'.cell? ⟨w.heap.size,3,none⟩=some (.int .u16 im)) (by kernel_rfl) (hS1.out) (fun hHeld=>?_);refine tq 0 rfl ?_;refine tq 1 rfl ?_;refine tq 2 rfl ?_;refine tq 3 rfl ?_;refine tq 4 rfl ?_;refine tq 5 rfl ?_;refine tq 7 rfl ?_;refine tq 8 rfl ?_;refine tq 9 rfl ?_;refine rd1 6 rfl (fun K hK=>?_);go_simp
 ((go_at_call 150;(with_reducible refine(HC.out _ H.out.drew).mono ?_));rintro e w1 ⟨rfl,hm1,hg1⟩;have HM1:=Nc (hm1.aZ k hd v HV.out);have HG1:=Nc (ag (aS (aO HG.out) hg1) (7+k) (.int .u16 v));have HK1:=Nc (And.intro (cell_kept (w:=(w.alloc (.cells #[.int .i64 144,.int .i64 (k:Int),.int .i64 s,.int .u16 im,.int .u16 ax,.int .i64 bk,.int .i64 sz] 58)).drew) n1 hg1 hne) (cell_kept (w:=(w.alloc (.cells #[.int .i64 144,.int .i64 (k:Int),.int .i64 s,.int .u16 im,.int .u16 ax,.int .i64 bk,.int .i64 sz] 58)).drew) n3 hg1 hne));have HK2:=Nc (And.intro (bV (i:=7+k) (v:= .int .u16 v) HK1.out.1 hne) (bV (i:=7+k) (v:= .int .u16 v) HK1.out.2 hne));have ck1:=hm1.cR k hd;have cf1:=hm1.frz;clear hm1 hg1)
 go_wp2_with fail
 refine hK.out _ _ (HK1.out) (fun hHeld=>?_);clear hK K
 try simp only[lay]
 refine tq 10 rfl ?_;refine rd1 11 rfl (fun K hK=>?_);go_simp;refine hK.out _ _ (HK2.out) (fun hHeld=>?_);clear hK K
 try simp only[lay]
 refine wpAnyH_done (by kernel_rfl) ?_ _;go_wp2_with fail
 go_end0
 exact Post.okk (congrArg Rs.ok HR.out) rfl HM1.out HG1.out
theorem Eb(E:Env)(ov:Value)(S:Ms)(k:Nat)(s im ax bk sz:Int)(w:World)(h:Mc E ov S w)(hd:k < 8)(hm:U16 im)(hl:iK S.out):
  Calls Tryz.prog 112 #[.pointer (some ⟨E.b,0,none⟩),.agg #[.int .i64 145,.int .i64 (k:Int),.int .i64 s,.int .u16 im,.int .u16 ax,.int .i64 bk,.int .i64 sz]] w fun e w'=>aY E ov S w (.ok (oO S im (S.r k))) e w':=by
 have hlt:=h.lt;have hne:E.b≠w.heap.size:=by omega
 have HI:=Nc (aG w 145 (k:Int) s im ax bk sz);have H:=Nc (h.alloc (.cells #[.int .i64 145,.int .i64 (k:Int),.int .i64 s,.int .u16 im,.int .u16 ax,.int .i64 bk,.int .i64 sz] 58));have HG:=Nc (aJ (ah w (some E.b)) (.cells #[.int .i64 145,.int .i64 (k:Int),.int .i64 s,.int .u16 im,.int .u16 ax,.int .i64 bk,.int .i64 sz] 58));have HW:=Nc (show(w.alloc (.cells #[.int .i64 145,.int .i64 (k:Int),.int .i64 s,.int .u16 im,.int .u16 ax,.int .i64 bk,.int .i64 sz] 58)).heap.size=w.heap.size+1 by simp);have hk8:(k:Int) < 8:=by omega
 obtain⟨n0,n1,n2,n3,n4,n5,n6⟩:=HI.out;have ck:=H.out.drew.cR k hd;have HV:=h.ok.r k hd;have hrow:rowOf ov≠some w.heap.size:=fun c=>by have:=h.BG _ c;omega
 obtain⟨v,hv⟩:∃ v,S.r k=v:=⟨_,rfl⟩;rw[hv] at ck HV⊢;have HVV:=Nc hv;have hS1:=Nc (And.intro n1 (And.intro n3 ck));have HC:=Nc (fun W (hw:Mc E ov S W)=>xy E ov S im v W hw hm HV hl);have HRr:=Nc (show(oO S im v).r=S.r by unfold oO;split<;>rfl);obtain⟨S1,hs1⟩:∃ S1,oO S im v=S1:=⟨_,rfl⟩;rw[hs1] at HC HRr⊢;clear h hv hs1 HV hm hl ck;go_enter Tryz.func112,Tryz.ntmps112
 go_wp2_with fail
 refine wp_region_held_drew (S:=fun w'=>w'.cell? ⟨w.heap.size,1,none⟩=some (.int .i64 (k:Int))∧w'.cell? ⟨w.heap.size,3,none⟩=some (.int .u16 im)∧w'.cell? ⟨E.b,7+k,none⟩=some (.int .u16 v)) (by kernel_rfl) (hS1.out) (fun hHeld=>?_);refine tq 0 rfl ?_;refine tq 1 rfl ?_;refine tq 2 rfl ?_;refine tq 3 rfl ?_;refine tq 4 rfl ?_;refine tq 5 rfl ?_;refine tq 6 rfl ?_;refine tq 7 rfl ?_;refine tq 8 rfl ?_;refine tq 9 rfl ?_;refine tq 10 rfl ?_;refine rd1 11 rfl (fun K hK=>?_);go_simp
 ((go_at_call 151;(with_reducible refine(HC.out _ H.out.drew).mono ?_));rintro e w1 ⟨rfl,ov',hm1,hg1⟩;have HM1:=Nc hm1;have HG1:=Nc ((Fro.gb ov (aO HG.out)).trans hg1);have HK1:=Nc (And.intro (hg1.cell (w:=(w.alloc (.cells #[.int .i64 145,.int .i64 (k:Int),.int .i64 s,.int .u16 im,.int .u16 ax,.int .i64 bk,.int .i64 sz] 58)).drew) n1 hne hrow) (And.intro (hg1.cell (w:=(w.alloc (.cells #[.int .i64 145,.int .i64 (k:Int),.int .i64 s,.int .u16 im,.int .u16 ax,.int .i64 bk,.int .i64 sz] 58)).drew) n3 hne hrow) (show w1.cell? ⟨E.b,7+k,none⟩=some (.int .u16 v) from HVV.out▸HRr.out▸hm1.cR k hd)));clear hm1 hg1)
 go_wp2_with fail
 refine hK.out _ _ (HK1.out) (fun hHeld=>?_);clear hK K
 try simp only[lay]
 refine wpAnyH_done (by kernel_rfl) ?_ _;go_wp2_with fail
 go_end0
 exact aY.okk rfl rfl HM1.out HG1.out
theorem Jl(E:Env)(ov:Value)(S:Ms)(k:Nat)(s im ax bk sz:Int)(w:World)(h:Mc E ov S w)(hd:k < 8)(hm:U16 im):
  Calls Tryz.prog 112 #[.pointer (some ⟨E.b,0,none⟩),.agg #[.int .i64 3,.int .i64 (k:Int),.int .i64 s,.int .u16 im,.int .u16 ax,.int .i64 bk,.int .i64 sz]] w fun e w'=>Post E ov S w (jP S) e w':=by
 have hlt:=h.lt;have hne:E.b≠w.heap.size:=by omega
 have HI:=Nc (aG w 3 (k:Int) s im ax bk sz);have H:=Nc (h.alloc (.cells #[.int .i64 3,.int .i64 (k:Int),.int .i64 s,.int .u16 im,.int .u16 ax,.int .i64 bk,.int .i64 sz] 58));have HG:=Nc (aJ (ah w (some E.b)) (.cells #[.int .i64 3,.int .i64 (k:Int),.int .i64 s,.int .u16 im,.int .u16 ax,.int .i64 bk,.int .i64 sz] 58));have HW:=Nc (show(w.alloc (.cells #[.int .i64 3,.int .i64 (k:Int),.int .i64 s,.int .u16 im,.int .u16 ax,.int .i64 bk,.int .i64 sz] 58)).heap.size=w.heap.size+1 by simp);obtain⟨n0,n1,n2,n3,n4,n5,n6⟩:=HI.out;have HC:=Nc (xX E ov S _ H.out);have HGx:=HG;obtain⟨r,hr⟩:∃ r,jP S=r:=⟨_,rfl⟩;rw[hr] at HC⊢;clear h hr;go_enter Tryz.func112,Tryz.ntmps112
 go_wp2_with fail
 refine HC.out.mono ?_;rintro e w1 hp;cases r with
 | ok S'=>
  obtain⟨rfl,hm1,hg1⟩:=hp;have HM1:=Nc hm1;have HG1:=Nc (aS HGx.out hg1);clear hm1 hg1;go_wp2_with fail
  go_end0
  exact Post.okk rfl rfl HM1.out HG1.out
 | tr t i=>
  obtain⟨rfl,S',hm1,hk1,hg1⟩:=hp;have HM1:=Nc hm1;have HK1:=Nc hk1;have HG1:=Nc (aS HGx.out hg1);clear hm1 hg1 hk1;go_wp2_with fail
  exact⟨rfl,Post.trr rfl rfl HM1.out HK1.out HG1.out⟩
theorem Jk(E:Env)(ov:Value)(S:Ms)(k:Nat)(s im ax bk sz:Int)(w:World)(h:Mc E ov S w)(hd:k < 8)(hm:U16 im):
  Calls Tryz.prog 112 #[.pointer (some ⟨E.b,0,none⟩),.agg #[.int .i64 4,.int .i64 (k:Int),.int .i64 s,.int .u16 im,.int .u16 ax,.int .i64 bk,.int .i64 sz]] w fun e w'=>Post E ov S w (mg E.I E.T S) e w':=by
 have hlt:=h.lt;have hne:E.b≠w.heap.size:=by omega
 have HI:=Nc (aG w 4 (k:Int) s im ax bk sz);have H:=Nc (h.alloc (.cells #[.int .i64 4,.int .i64 (k:Int),.int .i64 s,.int .u16 im,.int .u16 ax,.int .i64 bk,.int .i64 sz] 58));have HG:=Nc (aJ (ah w (some E.b)) (.cells #[.int .i64 4,.int .i64 (k:Int),.int .i64 s,.int .u16 im,.int .u16 ax,.int .i64 bk,.int .i64 sz] 58));have HW:=Nc (show(w.alloc (.cells #[.int .i64 4,.int .i64 (k:Int),.int .i64 s,.int .u16 im,.int .u16 ax,.int .i64 bk,.int .i64 sz] 58)).heap.size=w.heap.size+1 by simp);obtain⟨n0,n1,n2,n3,n4,n5,n6⟩:=HI.out;have HR:=Nc (CO E.I E.T S);have HC:=Nc (Aa E ov S _ H.out);have hv0:=h.env.I.v0;have hv1:=h.env.I.v1;have HKp:Hid (Kp S (ivS E.T S)):=Nc (by unfold ivS;split;exact Kp.refl S;exact⟨rfl,rfl,fun _ _=>rfl⟩);have HSp:Hid ((ivS E.T S).sp=S.sp):=Nc (by unfold ivS;split<;>rfl);obtain⟨r,hr⟩:∃ r,mg E.I E.T S=r:=⟨_,rfl⟩;obtain⟨S1,hs1⟩:∃ S1,ivS E.T S=S1:=⟨_,rfl⟩;obtain⟨v,hv⟩:∃ v,ivB E.T S=v:=⟨_,rfl⟩;obtain⟨ve,hve⟩:∃ ve,E.I.ve=ve:=⟨_,rfl⟩;rw[hr,hv,hs1,hve] at HR;rw[hv,hs1] at HC;rw[hs1] at HKp HSp;rw[hve] at hv0 hv1;have HVe:=Nc hve;rw[hr];clear h hr hs1 hv hve;cases v
 ·have HR1:=Nc (HR.out.trans (if_neg (by simp)))
  go_enter Tryz.func112,Tryz.ntmps112
  go_wp2_with fail
  refine HC.out.mono ?_;rintro e w1 ⟨rfl,hm1,hg1⟩;have HM1:=Nc hm1;have HG1:=Nc (aS HG.out hg1);clear hm1 hg1;go_wp2_with fail
  go_end0
  exact Post.okk HR1.out rfl HM1.out HG1.out
 ·by_cases q:ve=0
  ·have HR1:=Nc (HR.out.trans (if_neg (by simp[q])))
   subst q;go_enter Tryz.func112,Tryz.ntmps112
   go_wp2_with fail
   refine HC.out.mono ?_;rintro e w1 ⟨rfl,hm1,hg1⟩;have HM1:=Nc hm1;have HG1:=Nc (aS HG.out hg1);have c2:=hm1.c2;rw[HVe.out] at c2;clear hm1 hg1;go_wp2_with fail
   go_end0
   exact Post.okk HR1.out rfl HM1.out HG1.out
  ·have HR1:=Nc (HR.out.trans (if_pos ⟨rfl,q⟩))
   have dq:(ve != 0)=true:=by simpa using q
   go_enter Tryz.func112,Tryz.ntmps112
   go_wp2_with fail
   refine HC.out.mono ?_;rintro e w1 ⟨rfl,hm1,hg1⟩;have HM1:=Nc hm1;have HG1:=Nc (aS HG.out hg1);have c2:=hm1.c2;rw[HVe.out] at c2;clear hm1 hg1;go_wp2_with fail
   refine(uI E ov S1 _ HM1.out).mono ?_;rintro e w2 hp;obtain⟨r2,hr2⟩:∃ r2,rE E.I S1=r2:=⟨_,rfl⟩;rw[hr2] at hp HR1;clear hr2;cases r2 with
   | ok S'=>
    obtain⟨rfl,hm2,hg2⟩:=hp;have HM2:=Nc hm2;have HG2:=Nc (aS HG1.out hg2);clear hm2 hg2;go_wp2_with fail
    go_end0
    exact Post.okk HR1.out rfl HM2.out HG2.out
   | tr t i=>
    obtain⟨rfl,S',hm2,hk2,hg2⟩:=hp;have HM2:=Nc hm2;have HK2:=Nc (show Kp S S' from⟨hk2.ram.trans HKp.out.ram,hk2.out.trans HKp.out.out,fun j hj=>(hk2.stk j (by have:=HSp.out;omega)).trans (HKp.out.stk j hj)⟩);have HG2:=Nc (aS HG1.out hg2);clear hm2 hg2 hk2;go_wp2_with fail
    exact⟨rfl,Post.trr HR1.out rfl HM2.out HK2.out HG2.out⟩
end Go.Proofs.YthkcloapiefggaaGreatDoor
