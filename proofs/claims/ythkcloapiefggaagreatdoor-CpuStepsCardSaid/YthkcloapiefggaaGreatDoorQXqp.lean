import Derived.Test.YthkcloapiefggaaGreatDoorQXqf
namespace Go.Proofs.YthkcloapiefggaaGreatDoor
set_option linter.unusedVariables false
set_option linter.unusedSimpArgs false
set_option maxRecDepth 100000
set_option maxHeartbeats 1000000
open Go.ChangeShapes Go.WideShapes Go.RowKit
section
variable {E:Qe} {sv ov:Value} {S S0:Ms} {d:Nat} {k i:Int} {w:World}
theorem kU(w:World){o:Oper}{a:Act}{K:Act→World→Prop}{Q:Exit→Act→World→Prop}(s x:Operand)
 (ho:o.op= .call {callee:= .builtin .append,args:=#[s,x],argTypes:=#[38,38]}) (hty:o.type=38)
 (ov:Value) (l:List (Int × Int)) (hs:a.eval s=ov) (hev:Evs w ov l) (nb c:Nat) (hx:a.eval x= .slice (some ⟨nb,0,none⟩) 1 c) (p v:Int) (h0:w.cell? ⟨nb,0,none⟩=some (.int .u16 p)) (h1:w.cell? ⟨nb,1,none⟩=some (.int .u16 v)) (hn:l.length≤1000000000)
 (h:∀ g cap w',Evs w' (.slice (some ⟨g,0,none⟩) (l.length+1) cap) (l++[(p,v)])→w.grownBy w' (rowOf ov)→(rowOf ov=some g∨g=w.heap.size)→rowOf (.slice (some ⟨g,0,none⟩) (l.length+1) cap)=some g→
  K (a.put o.dst (.slice (some ⟨g,0,none⟩) (l.length+1) cap)) w'):o.wp Tryz.prog a w K Q:=by
 obtain⟨g,cap,w',hr,f1,f2,f3,f4⟩:=jY w ov l hev nb c p v h0 h1 hn;unfold Oper.wp execOp;simp only[ho,hty,resolve,invoke,builtin,Sem.run_bind,Sem.run_pure,Result.andThen_ok,List.map_toArray,List.map_cons,List.map_nil,hs,hx,hr];exact h g cap w' f1 f2 f3 f4
theorem Mq.Ll(h:Mq E sv ov S d k i w){p v:Int}(hp:U16 p)(hv:U16 v){ov':Value}{g:Nat}{w':World}(hev:Evs w' ov' (S.out++[(p,v)]))(hg:w.grownBy w' (rowOf ov))(hl:rowOf ov=some g∨g=w.heap.size)(hr:rowOf ov'=some g):
 Mq E sv ov' {S with out:=S.out++[(p,v)]} d k i (w'.setCell ⟨E.b,25,none⟩ ov')∧Frq E sv ov w sv ov' (w'.setCell ⟨E.b,25,none⟩ ov'):=by
 have hb':w'.heap[E.b]? =some (.cells (mqA E S sv ov k i) 96 (0,0)):=(hg.block E.b h.lt (fun e=>(h.rD e.symm).1 rfl)).trans h.blk;obtain⟨A,a1,a2,a3⟩:=h.ram;have hr':=(hg.block E.rb (lt_of_block a1) (fun e=>(h.rD e.symm).2.1 rfl)).trans a1;have hst:Stq E.w0.heap.size w' sv S.sp d S.stk:=h.st.kept hg (fun q hq e=>(h.rD e.symm).2.2 hq);have hbel:Below E.w0.heap.size E.w0 w':=h.bel.grown hg h.bel.size (fun q hq=>h.own q hq);have hs2:=grown_setCell w' E.b 25 ov';have hne:rowOf ov'≠some E.b:=fun e=>by
  obtain⟨B,hB⟩:=hev.typ e;rw[hb'] at hB;simp at hB
 refine⟨⟨{h.ok with out:=fun e he=>?_},h.env,Below.lG hbel hs2 h.env.b,?_,⟨A,(hs2.block E.rb (lt_of_block hr') (fun e=>h.brb (by simpa using e.symm))).trans hr',a2,a3⟩,hst.kept hs2 (fun q hq e=>(h.nst hq).1 (by simpa using e)),hev.grown hs2 (.inr hne),fun q hq=>?_⟩,?_⟩
 ·rcases List.mem_append.1 he with he|he
  ·exact h.ok.out e he
  ·simp at he;subst he;exact⟨hp,hv⟩
 ·exact bP w' E.b 25 _ _ _ _ hb'
 ·rw[hr] at hq
  injection hq with hq;subst hq;rcases hl with hl|hl
  ·exact h.own g hl
  ·rw[hl];exact h.bel.size
 ·refine⟨by have:=hg.size;simpa using this,fun q hq hn=>?_,fun q hq hm=>?_⟩
  ·exact(hs2.block q (Nat.lt_of_lt_of_le hq hg.size) (fun e=>hn (.inl (by simpa using e)))).trans (hg.block q hq (fun e=>hn (.inr (.inr (.inr e.symm)))))
  ·rcases hm with e|e|e|e
   ·exact .inl e
   ·exact .inr (.inl e)
   ·exact .inr (.inr (.inl e))
   ·rw[hr] at e
    injection e with e;rcases hl with hl|hl
    ·exact .inr (.inr (.inr (e▸hl)))
    ·omega
theorem EK(f:Nat→Int)(k:Nat)(a b:Int):upd (upd f k a) k b=upd f k b:=by
 funext j;unfold upd;split<;>rfl
theorem nP(x:Int):(if x < 0 then 0 else x)=max x 0:=by split<;>omega
set_option maxHeartbeats 4000000 in
theorem FU(k:Nat)(s im ax bk sz:Int)(h:Mq E sv ov S S.sp 0 0 w)(hk:k < 8)(hm:U16 im)(hx:U16 ax)(b0:0≤bk)(b1:bk < 256):
 Calls Tryz.prog 66 #[.pointer (some ⟨E.b,0,none⟩),.agg #[.int .i64 144,.int .i64 (k:Int),.int .i64 s,.int .u16 im,.int .u16 ax,.int .i64 bk,.int .i64 sz],.int .u16 S.pc] w (PsE E sv ov S w (.ok (inP E.T S k im))):=by
 obtain⟨n0,n1,n2,n3,n4,n5,n6⟩:=aG w 144 k s im ax bk sz;have HB:=Nc (heap_alloc_new w (.cells #[.int .i64 144,.int .i64 (k:Int),.int .i64 s,.int .u16 im,.int .u16 ax,.int .i64 bk,.int .i64 sz] 58));have H:=Nc (h.alloc (.cells #[.int .i64 144,.int .i64 (k:Int),.int .i64 s,.int .u16 im,.int .u16 ax,.int .i64 bk,.int .i64 sz] 58));have HF:=Nc ((Frq.refl E sv ov w).alloc (.cells #[.int .i64 144,.int .i64 (k:Int),.int .i64 s,.int .u16 im,.int .u16 ax,.int .i64 bk,.int .i64 sz] 58));have hne:E.b≠w.heap.size:=by have:=h.lt;omega
 have hf:=H.out.frz;have c15:=H.out.at 15 (.int .u16 S.pc) rfl;have c19:=H.out.at 19 (.int .i64 S.aF) rfl;have HM:=Nc hm;obtain⟨m0,m1⟩:=hm;have hpc:=h.ok.pc;have c21:=H.out.at 21 (.int .i64 S.inp) rfl;have c22:=H.out.at 22 (.int .i64 S.pol) rfl;have mx1:=nP S.inp;have mx2:=nP S.pol;have x0:0≤max S.inp 0:=by omega
 have y0:0≤max S.pol 0:=by omega
 have hk8:(k:Int) < 8:=by omega
 have cR:=H.out.cR k hk;have hwb:IntKind.u16.wrap S.aF=S.aF%65536:=IntKind.wrap_u16 _;have c5:=H.out.at 5 (.slice E.pi E.T.inn.length E.ci) rfl;have hlen:=h.env.T.n0;have hsl:=h.env.hin.below (H.out.bel);have HT:=Nc h.env.T;obtain⟨q0,q1⟩:=hpc;have HI:=Nc (show inP E.T S k im=if im=0 then aZ S k (S.aF%65536) else if (E.T.inn.length:Int)≤max S.inp 0 then aZ S k 0 else aZ {S with inp:=max S.inp 0+1} k (E.T.inn.getD (max S.inp 0).toNat 0) from rfl);have HS1:=Nc (H.out.aZ k hk (S.aF%65536) (dU _));have HS2:=Nc (H.out.aZ k hk 0 ⟨by decide,by decide⟩);have HS3:=Nc (fun v (hv:U16 v) (x:Int) (hx:I64 x)=>(H.out.aZ k hk 0 ⟨by decide,by decide⟩).drew.aZ k hk v hv |>.drew.nJ x hx);rw[HI.out];obtain⟨b,hb⟩:∃ b,S.aF%65536=b:=⟨_,rfl⟩;rw[hb] at hwb HS1⊢;obtain⟨x,hx⟩:∃ x,max S.inp 0=x:=⟨_,rfl⟩;obtain⟨y,hy⟩:∃ y,max S.pol 0=y:=⟨_,rfl⟩;rw[hx] at mx1 x0⊢;rw[hy] at mx2 y0;by_cases hz:im=0
 ·rw[if_pos hz]
  subst hz;clear h hb hx hy HI HS3 c5 hlen hsl;go_enter Tryz.func66,Tryz.ntmps66
  go_wp2_with fail
  go_region
  go_wp2_with fail
  go_end0
  exact PsE.okk rfl rfl HS1.out.drew (HF.out.set _ _).drew
 rw[if_neg hz];have hz2:(im==0)=false:=by simpa using hz
 by_cases hq:(E.T.inn.length:Int)≤x
 ·rw[if_pos hq]
  have hq2:decide (x < (E.T.inn.length:Int))=false:=by simpa using hq
  clear h hb hx hy HI HS3 hlen hsl hz hq;go_enter Tryz.func66,Tryz.ntmps66
  go_wp2_with fail
  go_region
  go_wp2_with fail
  go_end0
  exact PsE.okk rfl rfl HS2.out.drew (HF.out.set _ _).drew
 ·rw[if_neg hq]
  obtain⟨n,rfl⟩:∃ n:Nat,x=n:=⟨x.toNat,by omega⟩;have hn:n < E.T.inn.length:=by omega
  rw[show((n:Int)).toNat=n from rfl];obtain⟨g,o,hg,hc⟩:=hsl.inn hn;have hgb:g≠E.b:=fun e=>by
   obtain⟨g2,o2,hg2,hc2⟩:=h.env.hin.inn hn;have h1:=World.block_lt_of_cell? _ _ hc2;rw[hg] at hg2;simp at hg2;have h2:=h.env.b;simp only at h1;omega
  have hc':∀ v:Value,((w.alloc (.cells #[.int .i64 144,.int .i64 (k:Int),.int .i64 s,.int .u16 im,.int .u16 ax,.int .i64 bk,.int .i64 sz] 58)).setCell ⟨E.b,7+k,none⟩ v).cell? ⟨g,o+n,none⟩=some (.int .u16 (E.T.inn.getD n 0)):=fun v=>(World.cell?_of_block (a:=⟨g,o+n,none⟩) (dn _ ⟨E.b,7+k,none⟩ v g hgb)).trans hc
  rw[hg] at c5;have hv:=HT.out.inn _ (getD_mem hn);have HX:=Nc (HS3.out (E.T.inn.getD n 0) hv ((n:Int)+1) ⟨by omega,by omega⟩);have hxl:(n:Int) < (E.T.inn.length:Int):=by omega
  have hll:(E.T.inn.length:Int)≤1000000000:=by omega
  have HFin:=Nc (show aZ {S with inp:=(n:Int)+1} k (E.T.inn.getD n 0)={S with r:=upd (upd S.r k 0) k (E.T.inn.getD n 0),inp:=(n:Int)+1} by rw[EK];rfl);rw[HFin.out];obtain⟨v,hve⟩:∃ v,E.T.inn.getD n 0=v:=⟨_,rfl⟩;rw[hve] at hc hc' HX⊢;obtain⟨v0,v1⟩:=hve▸hv;obtain⟨L,hL⟩:∃ L,E.T.inn.length=L:=⟨_,rfl⟩;rw[hL] at c5 hxl hll;have HC:=Nc (hc' (.int .u16 0));have HC2:=HC.out;clear h hb hx hy HI HS3 hlen hsl hz hq hve hv hn hg hc hL HFin HT hc';go_enter Tryz.func66,Tryz.ntmps66
  go_wp2_with fail
  go_region
  go_wp2_with fail
  go_region
  go_wp2_with fail
  go_end0
  exact PsE.okk rfl rfl HX.out (((HF.out.set _ _).drew.set _ _).drew.set _ _)
set_option maxHeartbeats 4000000 in
theorem BZ(k:Nat)(s im ax bk sz:Int)(h:Mq E sv ov S S.sp 0 0 w)(hk:k < 8)(hm:U16 im)(hx:U16 ax)(b0:0≤bk)(b1:bk < 256)(hl:iK S.out):
 Calls Tryz.prog 66 #[.pointer (some ⟨E.b,0,none⟩),.agg #[.int .i64 145,.int .i64 (k:Int),.int .i64 s,.int .u16 im,.int .u16 ax,.int .i64 bk,.int .i64 sz],.int .u16 S.pc] w (PsE E sv ov S w (.ok (oO S im (S.r k)))):=by
 obtain⟨n0,n1,n2,n3,n4,n5,n6⟩:=aG w 145 k s im ax bk sz;have HB:=Nc (heap_alloc_new w (.cells #[.int .i64 145,.int .i64 (k:Int),.int .i64 s,.int .u16 im,.int .u16 ax,.int .i64 bk,.int .i64 sz] 58));have H:=Nc (h.alloc (.cells #[.int .i64 145,.int .i64 (k:Int),.int .i64 s,.int .u16 im,.int .u16 ax,.int .i64 bk,.int .i64 sz] 58));have HF:=Nc ((Frq.refl E sv ov w).alloc (.cells #[.int .i64 145,.int .i64 (k:Int),.int .i64 s,.int .u16 im,.int .u16 ax,.int .i64 bk,.int .i64 sz] 58));have hne:E.b≠w.heap.size:=by have:=h.lt;omega
 have hf:=H.out.frz;have c15:=H.out.at 15 (.int .u16 S.pc) rfl;have c19:=H.out.at 19 (.int .i64 S.aF) rfl;have HM:=Nc hm;obtain⟨m0,m1⟩:=hm;have hpc:=h.ok.pc;have c21:=H.out.at 21 (.int .i64 S.inp) rfl;have c22:=H.out.at 22 (.int .i64 S.pol) rfl;have mx1:=nP S.inp;have mx2:=nP S.pol;have x0:0≤max S.inp 0:=by omega
 have y0:0≤max S.pol 0:=by omega
 have hk8:(k:Int) < 8:=by omega
 have cR:=H.out.cR k hk;have c25:=H.out.at 25 ov rfl;have hr:=h.ok.r k hk;obtain⟨q0,q1⟩:=hpc;have HI:=Nc (show oO S im (S.r k)=if im=0 then {S with aF:=S.r k%64} else {S with out:=S.out++[(im,S.r k)]} from rfl);rw[HI.out];have HS1:=Nc (H.out.fQ (S.r k%64) (wu _));have HRu:=Nc hr;obtain⟨r,hre⟩:∃ r,S.r k=r:=⟨_,rfl⟩;rw[hre] at cR hr HS1 HRu⊢;obtain⟨r0,r1⟩:=hr;obtain⟨x,hx⟩:∃ x,max S.inp 0=x:=⟨_,rfl⟩;obtain⟨y,hy⟩:∃ y,max S.pol 0=y:=⟨_,rfl⟩;rw[hx] at mx1 x0;rw[hy] at mx2 y0;have htm:=bu r 64 r0;by_cases hz:im=0
 ·rw[if_pos hz]
  subst hz;have hw8:IntKind.u16.wrap (r%64)=r%64:=by rw[IntKind.wrap_u16];omega
  have hw9:IntKind.i64.wrap (r%64)=r%64:=IntWalk.i64_in _ (by omega);clear h hx hy HI hre;go_enter Tryz.func66,Tryz.ntmps66
  go_wp2_with fail
  go_region
  go_wp2_with fail
  go_end0
  exact PsE.okk rfl rfl HS1.out.drew (HF.out.set _ _).drew
 ·rw[if_neg hz]
  have hz2:(im==0)=false:=by simpa using hz
  have HL:=Nc hl;have HRe:=Nc hre;clear h hx hy HI hre hz hl;go_enter Tryz.func66,Tryz.ntmps66
  go_upto_region 13 with fail
  obtain⟨W,hW⟩:∃ W,w.alloc (.cells #[.int .i64 145,.int .i64 (k:Int),.int .i64 s,.int .u16 im,.int .u16 ax,.int .i64 bk,.int .i64 sz] 58)=W:=⟨_,rfl⟩;rw[hW] at H HF HB n0 n1 n2 n3 n4 n5 n6 hf c15 c19 c21 c22 cR c25;have hWs:w.heap.size < W.heap.size:=by rw[← hW];simp
  have HWs:=Nc hWs;have hS1:=Nc (show(fun w'=>w'.cell? ⟨w.heap.size,3,none⟩=some (.int .u16 im)∧w'.cell? ⟨w.heap.size,1,none⟩=some (.int .i64 (k:Int))∧w'.cell? ⟨E.b,7+k,none⟩=some (.int .u16 r)) W.drew from⟨n3,n1,cR⟩);have HS2:=Nc (show(fun w'=>w'.cell? ⟨w.heap.size,3,none⟩=some (.int .u16 im)∧w'.cell? ⟨w.heap.size,1,none⟩=some (.int .i64 (k:Int))∧w'.cell? ⟨E.b,7+k,none⟩=some (.int .u16 r)) (W.alloc (.cells #[.int .u16 im,.int .u16 r] 81)).drew from⟨bZ n3 _,bZ n1 _,bZ cR _⟩);have HN:=Nc (heap_alloc_new W (.cells #[.int .u16 im,.int .u16 r] 81));have HA:=Nc ((H.out.alloc (.cells #[.int .u16 im,.int .u16 r] 81)).drew);have HFA:=Nc ((HF.out.alloc (.cells #[.int .u16 im,.int .u16 r] 81)).drew);have HBA:=Nc (aj W (.cells #[.int .u16 im,.int .u16 r] 81) _ HB.out);have HE25:=Nc c25;rw[hW];clear hW c25 hWs;refine wp_region_held_drew (S:=fun w'=>w'.cell? ⟨w.heap.size,3,none⟩=some (.int .u16 im)∧w'.cell? ⟨w.heap.size,1,none⟩=some (.int .i64 (k:Int))∧w'.cell? ⟨E.b,7+k,none⟩=some (.int .u16 r)) (by kernel_rfl) hS1.out (fun hHeld=>?_);refine tq 0 rfl ?_;refine tq 1 rfl ?_;refine tq 2 rfl ?_;refine tq 3 rfl ?_;refine tq 5 rfl ?_;refine tq 6 rfl ?_;refine tq 7 rfl ?_;refine tq 8 rfl ?_;refine tq 9 rfl ?_;refine tq 10 rfl ?_;refine tq 11 rfl ?_;refine tq 12 rfl ?_;refine tq 13 rfl ?_;refine tq 14 rfl ?_;refine tq 15 rfl ?_;refine wpAnyH_ready (rs:=[4,16]) (by kernel_rfl) (by simp) (AllReadyH.cons rfl (fun K hK=>?_) (AllReadyH.cons rfl (fun K hK=>?_) AllReadyH.nil))
  ·have c25:W.cell? ⟨E.b,25,none⟩=some ov:=HE25.out
   go_simp;refine hK.out _ _ hS1.out (fun hHeld=>?_);clear hK K c25
   try simp only[lay]
   refine rd1 16 rfl (fun K hK=>?_);go_simp;refine hK.out _ _ HS2.out (fun hHeld=>?_);clear hK K
   try simp only[lay]
   refine rd1 17 rfl (fun K hK=>?_);rw[if_pos (by rfl)];refine kU _ (.tmp 115) (.tmp 127) rfl rfl ov S.out rfl HA.out.out W.heap.size _ rfl im r (ae HN.out 0 _ rfl) (ae HN.out 1 _ rfl) HL.out ?_;intro g cap w3 hev hg hd hr;have HX:=Nc (HA.out.Ll HM.out HRu.out hev hg (by simpa using hd) hr);have neb:some E.b≠rowOf ov:=fun e=>(HA.out.rD e.symm).1 rfl
   have nbx:some w.heap.size≠rowOf ov:=fun e=>by
    obtain⟨B,hB⟩:=HA.out.out.typ e.symm;have h2:((W.alloc (.cells #[.int .u16 im,.int .u16 r] 81)).drew).heap[w.heap.size]? =_:=HBA.out;rw[h2] at hB;simp at hB
   have hszb:w.heap.size < ((W.alloc (.cells #[.int .u16 im,.int .u16 r] 81)).drew).heap.size:=by have:=HWs.out;simp;omega
   have HB3:=Nc (show(fun w'=>w'.cell? ⟨w.heap.size,3,none⟩=some (.int .u16 im)∧w'.cell? ⟨w.heap.size,1,none⟩=some (.int .i64 (k:Int))∧w'.cell? ⟨E.b,7+k,none⟩=some (.int .u16 r)) w3 from⟨(hg.cell_far ⟨w.heap.size,3,none⟩ hszb nbx).trans HS2.out.1,(hg.cell_far ⟨w.heap.size,1,none⟩ hszb nbx).trans HS2.out.2.1,(hg.cell_far ⟨E.b,7+k,none⟩ HA.out.lt neb).trans HS2.out.2.2⟩);have c25:=(hg.cell_far ⟨E.b,25,none⟩ HA.out.lt neb).trans (HA.out.at 25 ov rfl);have f25:∀ j,w3.frozen? ⟨E.b,j,none⟩=false:=fun j=>(hg.frozen_far ⟨E.b,j,none⟩ HA.out.lt neb).trans (HA.out.frz j)
   have HB4:=Nc (show(fun w'=>w'.cell? ⟨w.heap.size,3,none⟩=some (.int .u16 im)∧w'.cell? ⟨w.heap.size,1,none⟩=some (.int .i64 (k:Int))∧w'.cell? ⟨E.b,7+k,none⟩=some (.int .u16 r)) (w3.setCell ⟨E.b,25,none⟩ (.slice (some ⟨g,0,none⟩) (S.out.length+1) cap)) from⟨bV (i:=25) HB3.out.1 hne,bV (i:=25) HB3.out.2.1 hne,by
    have:=HX.out.1.cR k hk;rw[HRe.out] at this;exact this⟩)
   clear hev hg hd hr neb nbx hszb;refine hK.out _ _ HB3.out (fun hHeld=>?_);clear hK K
   try simp only[lay]
   refine tq 18 rfl ?_;refine tq 19 rfl ?_;refine rd1 20 rfl (fun K hK=>?_);go_simp;refine hK.out _ _ HB4.out (fun hHeld=>?_);clear hK K
   try simp only[lay]
   refine wpAnyH_done (by kernel_rfl) ?_ _;go_wp2_with fail
   go_end0
   exact PsE.okk rfl rfl HX.out.1 (HFA.out.trans HX.out.2)
  ·go_simp
   refine hK.out _ _ HS2.out (fun hHeld=>?_);clear hK K
   try simp only[lay]
   have c25:(W.alloc (.cells #[.int .u16 im,.int .u16 r] 81)).cell? ⟨E.b,25,none⟩=some ov:=bZ HE25.out _;refine rd1 4 rfl (fun K hK=>?_);go_simp;refine hK.out _ _ HS2.out (fun hHeld=>?_);clear hK K c25
   try simp only[lay]
   refine rd1 17 rfl (fun K hK=>?_);rw[if_pos (by rfl)];refine kU _ (.tmp 115) (.tmp 127) rfl rfl ov S.out rfl HA.out.out W.heap.size _ rfl im r (ae HN.out 0 _ rfl) (ae HN.out 1 _ rfl) HL.out ?_;intro g cap w3 hev hg hd hr;have HX:=Nc (HA.out.Ll HM.out HRu.out hev hg (by simpa using hd) hr);have neb:some E.b≠rowOf ov:=fun e=>(HA.out.rD e.symm).1 rfl
   have nbx:some w.heap.size≠rowOf ov:=fun e=>by
    obtain⟨B,hB⟩:=HA.out.out.typ e.symm;have h2:((W.alloc (.cells #[.int .u16 im,.int .u16 r] 81)).drew).heap[w.heap.size]? =_:=HBA.out;rw[h2] at hB;simp at hB
   have hszb:w.heap.size < ((W.alloc (.cells #[.int .u16 im,.int .u16 r] 81)).drew).heap.size:=by have:=HWs.out;simp;omega
   have HB3:=Nc (show(fun w'=>w'.cell? ⟨w.heap.size,3,none⟩=some (.int .u16 im)∧w'.cell? ⟨w.heap.size,1,none⟩=some (.int .i64 (k:Int))∧w'.cell? ⟨E.b,7+k,none⟩=some (.int .u16 r)) w3 from⟨(hg.cell_far ⟨w.heap.size,3,none⟩ hszb nbx).trans HS2.out.1,(hg.cell_far ⟨w.heap.size,1,none⟩ hszb nbx).trans HS2.out.2.1,(hg.cell_far ⟨E.b,7+k,none⟩ HA.out.lt neb).trans HS2.out.2.2⟩);have c25:=(hg.cell_far ⟨E.b,25,none⟩ HA.out.lt neb).trans (HA.out.at 25 ov rfl);have f25:∀ j,w3.frozen? ⟨E.b,j,none⟩=false:=fun j=>(hg.frozen_far ⟨E.b,j,none⟩ HA.out.lt neb).trans (HA.out.frz j)
   have HB4:=Nc (show(fun w'=>w'.cell? ⟨w.heap.size,3,none⟩=some (.int .u16 im)∧w'.cell? ⟨w.heap.size,1,none⟩=some (.int .i64 (k:Int))∧w'.cell? ⟨E.b,7+k,none⟩=some (.int .u16 r)) (w3.setCell ⟨E.b,25,none⟩ (.slice (some ⟨g,0,none⟩) (S.out.length+1) cap)) from⟨bV (i:=25) HB3.out.1 hne,bV (i:=25) HB3.out.2.1 hne,by
    have:=HX.out.1.cR k hk;rw[HRe.out] at this;exact this⟩)
   clear hev hg hd hr neb nbx hszb;refine hK.out _ _ HB3.out (fun hHeld=>?_);clear hK K
   try simp only[lay]
   refine tq 18 rfl ?_;refine tq 19 rfl ?_;refine rd1 20 rfl (fun K hK=>?_);go_simp;refine hK.out _ _ HB4.out (fun hHeld=>?_);clear hK K
   try simp only[lay]
   refine wpAnyH_done (by kernel_rfl) ?_ _;go_wp2_with fail
   go_end0
   exact PsE.okk rfl rfl HX.out.1 (HFA.out.trans HX.out.2)
end

section
variable {E:Qe} {sv ov:Value} {S S0:Ms} {d:Nat} {k i:Int} {w:World}
theorem G7(S X:Ms)(k:Nat):(rsK S X k).r=X.r:=by
 induction k with
 | zero=>rfl
 | succ k ih=>exact ih
theorem Jt.c17{sv0 ov0:Value}{w0:World}{P:Ms→Int→Int→Prop}(h:Jt E S0 sv0 ov0 w0 P w):∃ x,w.cell? ⟨E.b,17,none⟩=some (.int .u16 x)∧U16 x:=by
 obtain⟨sv,ov,S,k,i,hm,hf,hk,hp⟩:=h;exact⟨_,hm.at 17 (.int .u16 S.fp) rfl,hm.ok.fp⟩
theorem Jt.c18{sv0 ov0:Value}{w0:World}{P:Ms→Int→Int→Prop}(h:Jt E S0 sv0 ov0 w0 P w):∃ x,w.cell? ⟨E.b,18,none⟩=some (.int .u16 x)∧U16 x:=by
 obtain⟨sv,ov,S,k,i,hm,hf,hk,hp⟩:=h;exact⟨_,hm.at 18 (.int .u16 S.f) rfl,hm.ok.f⟩
theorem Jt.cR{sv0 ov0:Value}{w0:World}{P:Ms→Int→Int→Prop}(h:Jt E S0 sv0 ov0 w0 P w)(j:Nat)(hj:j < 8):∃ x,w.cell? ⟨E.b,7+j,none⟩=some (.int .u16 x)∧U16 x:=by
 obtain⟨sv,ov,S,k,i,hm,hf,hk,hp⟩:=h;exact⟨_,hm.cR j hj,hm.ok.r j hj⟩
theorem Jt.c2{sv0 ov0:Value}{w0:World}{P:Ms→Int→Int→Prop}(h:Jt E S0 sv0 ov0 w0 P w):w.cell? ⟨E.b,2,none⟩=some (.int .u16 E.I.ve):=by
 obtain⟨sv,ov,S,k,i,hm,hf,hk,hp⟩:=h;exact hm.at 2 (.int .u16 E.I.ve) rfl
set_option maxHeartbeats 4000000 in
theorem zJ(k:Nat)(s im ax bk sz:Int)(h:Mq E sv ov S S.sp 0 0 w)(hk:k < 8)(hm:U16 im)(hx:U16 ax)(b0:0≤bk)(b1:bk < 256):
 Calls Tryz.prog 66 #[.pointer (some ⟨E.b,0,none⟩),.agg #[.int .i64 4,.int .i64 (k:Int),.int .i64 s,.int .u16 im,.int .u16 ax,.int .i64 bk,.int .i64 sz],.int .u16 S.pc] w (PsE E sv ov S w (mg E.I E.T S)):=by
 obtain⟨n0,n1,n2,n3,n4,n5,n6⟩:=aG w 4 k s im ax bk sz;have HB:=Nc (heap_alloc_new w (.cells #[.int .i64 4,.int .i64 (k:Int),.int .i64 s,.int .u16 im,.int .u16 ax,.int .i64 bk,.int .i64 sz] 58));have H:=Nc (h.alloc (.cells #[.int .i64 4,.int .i64 (k:Int),.int .i64 s,.int .u16 im,.int .u16 ax,.int .i64 bk,.int .i64 sz] 58));have HF:=Nc ((Frq.refl E sv ov w).alloc (.cells #[.int .i64 4,.int .i64 (k:Int),.int .i64 s,.int .u16 im,.int .u16 ax,.int .i64 bk,.int .i64 sz] 58));have hne:E.b≠w.heap.size:=by have:=h.lt;omega
 have hf:=H.out.frz;have c15:=H.out.at 15 (.int .u16 S.pc) rfl;have c19:=H.out.at 19 (.int .i64 S.aF) rfl;have HM:=Nc hm;obtain⟨m0,m1⟩:=hm;have hpc:=h.ok.pc;have c21:=H.out.at 21 (.int .i64 S.inp) rfl;have c22:=H.out.at 22 (.int .i64 S.pol) rfl;have mx1:=nP S.inp;have mx2:=nP S.pol;have x0:0≤max S.inp 0:=by omega
 have y0:0≤max S.pol 0:=by omega
 have hwb:IntKind.u16.wrap S.aF=S.aF%65536:=IntKind.wrap_u16 _;have c6:=H.out.at 6 (.slice E.pq E.T.irq.length E.cq) rfl;have c2:=H.out.at 2 (.int .u16 E.I.ve) rfl;have hlen:=h.env.T.n1;have hsl:=h.env.hir.below (H.out.bel);have HT:=Nc h.env.T;have HPc:=Nc hpc;have HVe:=Nc (show U16 E.I.ve from⟨h.env.I.v0,h.env.I.v1⟩);have HO:=Nc h.ok;obtain⟨q0,q1⟩:=hpc;have HI:=Nc (show mg E.I E.T S=if (E.T.irq.length:Int)≤max S.pol 0 then .ok S else if (E.T.irq.getD (max S.pol 0).toNat 0)≠0∧E.I.ve≠0 then rE E.I {S with pol:=max S.pol 0+1} else .ok {S with pol:=max S.pol 0+1} from rfl);rw[HI.out];obtain⟨x,hx⟩:∃ x,max S.inp 0=x:=⟨_,rfl⟩;obtain⟨y,hy⟩:∃ y,max S.pol 0=y:=⟨_,rfl⟩;rw[hx] at mx1 x0;rw[hy] at mx2 y0⊢;by_cases hq:(E.T.irq.length:Int)≤y
 ·rw[if_pos hq]
  have hq2:decide (y < (E.T.irq.length:Int))=false:=by simpa using hq
  clear h hx hy HI hlen hsl hq;go_enter Tryz.func66,Tryz.ntmps66
  go_wp2_with fail
  go_end0
  exact PsE.okk rfl rfl H.out HF.out
 rw[if_neg hq];obtain⟨n,rfl⟩:∃ n:Nat,y=n:=⟨y.toNat,by omega⟩;have hn:n < E.T.irq.length:=by omega
 rw[show((n:Int)).toNat=n from rfl];obtain⟨g,o,hg,hc⟩:=hsl.irr hn;rw[hg] at c6;have hv:=HT.out.irq _ (getD_mem hn);have hxl:(n:Int) < (E.T.irq.length:Int):=by omega
 have hll:(E.T.irq.length:Int)≤1000000000:=by omega
 have HS:=Nc (H.out.nI ((n:Int)+1) ⟨by omega,by omega⟩);have HFS:=Nc (HF.out.set 22 (.int .i64 ((n:Int)+1)));obtain⟨v,hve⟩:∃ v,E.T.irq.getD n 0=v:=⟨_,rfl⟩;rw[hve] at hc hv⊢;obtain⟨v0,v1⟩:=hv;obtain⟨L,hL⟩:∃ L,E.T.irq.length=L:=⟨_,rfl⟩;rw[hL] at c6 hxl hll;clear hx hy HI hlen hsl hq hve hn hg hL HT;by_cases hz:v=0
 ·rw[if_neg (fun c=>c.1 hz)]
  subst hz;clear h;go_enter Tryz.func66,Tryz.ntmps66
  go_wp2_with fail
  refine bodyPost_ret (results_none rfl _ _ _) rfl ?_;exact PsE.okk rfl rfl HS.out HFS.out
 have hz2:(v==0)=false:=by simpa using hz
 by_cases he:E.I.ve=0
 ·rw[if_neg (fun c=>c.2 he)]
  rw[he] at c2;clear h he;go_enter Tryz.func66,Tryz.ntmps66
  go_wp2_with fail
  refine bodyPost_ret (results_none rfl _ _ _) rfl ?_;exact PsE.okk rfl rfl HS.out HFS.out
 have he2:(E.I.ve==0)=false:=by simpa using he
 rw[if_pos ⟨hz,he⟩];obtain⟨S1,hS1⟩:∃ S1:Ms,S1={S with pol:=(n:Int)+1}:=⟨_,rfl⟩;have HS1:=Nc hS1;rw[← hS1] at HS⊢;have s1:S1.sp=S.sp:=by rw[hS1]
 have s2:S1.r=S.r:=by rw[hS1]
 have s3:S1.pc=S.pc:=by rw[hS1]
 have s4:S1.aF=S.aF:=by rw[hS1]
 have HK:=Nc (show Kp S S1 by rw[hS1];exact⟨rfl,rfl,fun _ _=>rfl⟩);obtain⟨W,hW⟩:∃ W,W=(w.alloc (.cells #[.int .i64 4,.int .i64 (k:Int),.int .i64 s,.int .u16 im,.int .u16 ax,.int .i64 bk,.int .i64 sz] 58)).setCell ⟨E.b,22,none⟩ (.int .i64 ((n:Int)+1)):=⟨_,rfl⟩;rw[← hW] at HS HFS;have hsz:rE E.I S1=room S1 12 {rsK S1 (psh (psh (bJ S1) S1.f) S1.fp) 8 with pc:=E.I.ve}:=rfl;rw[hsz];obtain⟨b,hb⟩:∃ b,S1.aF%65536=b:=⟨_,rfl⟩;have HbU:=Nc (show U16 b from hb▸dU _);have hwb2:IntKind.u16.wrap S.aF=b:=by rw[IntKind.wrap_u16,← s4,hb]
 clear hwb;have HSp:=Nc s1;by_cases hr:S.sp+12≤4096
 ·have e:room S1 12 {rsK S1 (psh (psh (bJ S1) S1.f) S1.fp) 8 with pc:=E.I.ve}= .ok {rsK S1 (psh (psh (bJ S1) S1.f) S1.fp) 8 with pc:=E.I.ve}:=by unfold room;rw[if_pos (by omega)]
  rw[e];have HP1:=Nc (fB b HS.out (by omega) (by omega) HbU.out);have HP2:Hid (∀ sv' W,Mq E sv' ov (psh S1 b) S.sp 0 0 W→Calls Tryz.prog 117 #[.pointer (some ⟨E.b,0,none⟩),.int .u16 S.pc] W fun e w'=>e= .returned (.tuple #[])∧∃ sv2,Mq E sv2 ov (bJ S1) S.sp 0 0 w'∧Frq E sv' ov W sv2 ov w'):=Nc (fun sv' W hm=>by
   have:=fB S1.pc hm (show S.sp≤S1.sp+1 by omega) (show S1.sp+1 < 4096 by omega) hm.ok.pc;rw[qU,hb,s3];rw[s3] at this;exact this)
  have HP3:=Nc (fun sv' W (hm:Mq E sv' ov (bJ S1) S.sp 0 0 W)=>And.intro (hm.at 18 (.int .u16 S1.f) rfl) (fB S1.f hm (show S.sp≤S1.sp+1+1 by omega) (show S1.sp+1+1 < 4096 by omega) hm.ok.f));have HP4:=Nc (fun sv' W (hm:Mq E sv' ov (psh (bJ S1) S1.f) S.sp 0 0 W)=>And.intro (hm.at 17 (.int .u16 S1.fp) rfl) (fB S1.fp hm (show S.sp≤S1.sp+1+1+1 by omega) (show S1.sp+1+1+1 < 4096 by omega) hm.ok.fp));obtain⟨X,hX⟩:∃ X,X=psh (psh (bJ S1) S1.f) S1.fp:=⟨_,rfl⟩;have x1:X.sp=S.sp+4:=by rw[hX];show S1.sp+1+1+1+1=_;omega
  have x2:X.r=S1.r:=by rw[hX];rfl
  rw[← hX] at HP4⊢;have HR5:=Nc (fun sv' W (j:Nat) (hj:j < 8) (hm:Mq E sv' ov (rsK S1 X j) S.sp 0 0 W)=>And.intro (show W.cell? ⟨E.b,7+j,none⟩=some (.int .u16 (S1.r j)) by
    have:=hm.cR j hj;rw[G7,x2] at this;exact this) (fB (S1.r j) hm (by rw[qf];omega) (by rw[qf];omega) (by have:=hm.ok.r j hj;rw[G7,x2] at this;exact this)))
  have HE:=Nc (fun sv' W (hm:Mq E sv' ov (rsK S1 X 8) S.sp 0 0 W)=>And.intro (hm.at 15 (.int .u16 (rsK S1 X 8).pc) rfl) (And.intro (hm.at 2 (.int .u16 E.I.ve) rfl) (hm.dF E.I.ve HVe.out)));have hX':=Nc hX;clear h e hr hS1 s1 s2 s3 s4 x1 x2 HS1 hsz hX hb hz he;subst hW;go_enter Tryz.func66,Tryz.ntmps66
  go_wp2_with fail
  refine HP1.out.mono ?_;rintro e w1 ⟨rfl,sv1,hm1,hf1⟩;have H1:=Nc hm1;have F1:=Nc hf1;clear hm1 hf1;go_wp2_with fail
  refine(HP2.out _ _ H1.out).mono ?_;rintro e w2 ⟨rfl,sv2,hm2,hf2⟩;have H2:=Nc hm2;have F2:=Nc (F1.out.trans hf2);obtain⟨d18,_⟩:=HP3.out _ _ hm2;clear hm2 hf2;go_wp2_with fail
  refine(HP3.out _ _ H2.out).2.mono ?_;rintro e w3 ⟨rfl,sv3,hm3,hf3⟩;have H3:=Nc hm3;have F3:=Nc (F2.out.trans hf3);obtain⟨d17,_⟩:=HP4.out _ _ hm3;clear hm3 hf3;go_wp2_with fail
  refine(HP4.out _ _ H3.out).2.mono ?_;rintro e w4 ⟨rfl,sv4,hm4,hf4⟩;have H4:=Nc hm4;have F4:=Nc (HFS.out.trans (F3.out.trans hf4));clear hm4 hf4;go_wp2_with fail
  go_loopw [9] (fun i wr=>∃ j:Nat,j≤8∧i= .int .i64 j∧Hid (∃ sv',Mq E sv' ov (rsK S1 X j) S.sp 0 0 wr∧Frq E sv ov w sv' ov wr)) (fun i _=>8-(intOf i).toNat)
  case atStart=>exact⟨0,Nat.zero_le _,rfl,Nc ⟨sv4,H4.out,F4.out⟩⟩
  case round=>
   obtain⟨j,hj,rfl,HKr⟩:=hrel;obtain⟨sv',hm',hf'⟩:=HKr.out;by_cases hlt:j < 8
   ·have hlt':(j:Int) < 8:=by omega
    obtain⟨dR,hp5⟩:=HR5.out _ _ j hlt hm';have HP5:=Nc hp5;have HK':=Nc hf';clear hm' hf' hp5;go_wp2_with fail
    refine HP5.out.mono ?_;rintro e w5 ⟨rfl,sv5,hm5,hf5⟩;have HX:=Nc (show ∃ sv',Mq E sv' ov (rsK S1 X (j+1)) S.sp 0 0 w5∧Frq E sv ov w sv' ov w5 from⟨sv5,hm5,HK'.out.trans hf5⟩);clear hm5 hf5;go_wp2_with fail
    go_roundw
    case rel=>exact⟨j+1,by omega,by go_num,HX⟩
    case measure=>simp[intOf];omega
   ·obtain rfl:j=8:=by omega
    rw[show(((8:Nat)):Int)=8 from rfl];obtain⟨d15,d2,hms⟩:=HE.out _ _ hm';have g5:=hm'.frz;have HY:=Nc (And.intro hms hf');clear hm' hf' hms;go_wp2_with fail
    go_end0
    exact PsE.okk rfl rfl HY.out.1 (HY.out.2.set _ _)
 ·have e:room S1 12 {rsK S1 (psh (psh (bJ S1) S1.f) S1.fp) 8 with pc:=E.I.ve}= .tr 5 0:=by unfold room;rw[if_neg (by omega)]
  rw[e];have HP1:=Nc (fU b 11 (show Jt E S sv ov w (Full 12 S.sp) W from⟨sv,ov,S1,0,0,HS.out,HFS.out,HK.out,by omega,.inr ⟨rfl,rfl,by omega⟩⟩) HbU.out);clear h e hr hS1 s1 s2 s3 s4 HS1 hsz hb hz he;subst hW;go_enter Tryz.func66,Tryz.ntmps66
  go_wp2_with fail
  refine HP1.out.mono ?_;rintro e w1 ⟨rfl,hJ⟩;have HP2:=Nc (fU S.pc 10 hJ HPc.out);clear hJ;go_wp2_with fail
  refine HP2.out.mono ?_;rintro e w2 ⟨rfl,hJ⟩;obtain⟨xf,d18,uf⟩:=hJ.c18;have HP3:=Nc (fU xf 9 hJ uf);clear hJ uf;go_wp2_with fail
  refine HP3.out.mono ?_;rintro e w3 ⟨rfl,hJ⟩;obtain⟨xp,d17,up⟩:=hJ.c17;have HP4:=Nc (fU xp 8 hJ up);clear hJ up;go_wp2_with fail
  refine HP4.out.mono ?_;rintro e w4 ⟨rfl,hJ⟩;have HJ4:=Nc hJ;clear hJ;go_wp2_with fail
  go_loopw [9] (fun i wr=>∃ j:Nat,j≤8∧i= .int .i64 j∧Hid (Jt E S sv ov w (Full (8-j) S.sp) wr)) (fun i _=>8-(intOf i).toNat)
  case atStart=>exact⟨0,Nat.zero_le _,rfl,HJ4⟩
  case round=>
   obtain⟨j,hj,rfl,HKr⟩:=hrel;by_cases hlt:j < 8
   ·have hlt':(j:Int) < 8:=by omega
    obtain⟨xr,dR,ur⟩:=HKr.out.cR j hlt;have HP5:=Nc (fU xr (8-(j+1)) (show Jt E S sv ov w (Full (8-(j+1)+1) S.sp) wr by rw[show 8-(j+1)+1=8-j by omega];exact HKr.out) ur);clear ur;go_wp2_with fail
    refine HP5.out.mono ?_;rintro e w5 ⟨rfl,hJ⟩;have HX:=Nc hJ;clear hJ;go_wp2_with fail
    go_roundw
    case rel=>exact⟨j+1,by omega,by go_num,HX⟩
    case measure=>simp[intOf];omega
   ·obtain rfl:j=8:=by omega
    rw[show(((8:Nat)):Int)=8 from rfl];obtain⟨⟨x15,d15⟩,_,_,_,_,g5⟩:=HKr.out.cells;have d2:=HKr.out.c2;have HY:=Nc (HKr.out.pcF E.I.ve HVe.out);go_wp2_with fail
    go_end0
    exact PsE.jt rfl rfl HY.out sK
end
end Go.Proofs.YthkcloapiefggaaGreatDoor
