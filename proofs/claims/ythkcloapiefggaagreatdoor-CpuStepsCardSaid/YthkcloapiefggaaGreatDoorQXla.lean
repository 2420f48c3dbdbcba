import Derived.Test.YthkcloapiefggaaGreatDoorQXld
import Derived.Test.YthkcloapiefggaaGreatDoorQMem
import Derived.Test.YthkcloapiefggaaGreatDoorQXma
import Derived.Deep.CutBlock
import Derived.Test.YthkcloapiefggaaGreatDoorQEncW
import Derived.Test.YthkcloapiefggaaGreatDoorQRma
namespace Go.Proofs.YthkcloapiefggaaGreatDoor
set_option linter.unusedVariables false
set_option linter.unusedSimpArgs false
set_option maxRecDepth 100000
set_option maxHeartbeats 1000000
open Go.ChangeShapes Go.WideShapes Go.RowKit
theorem jv:(Tryz.prog.info? 58).map (·.size)=some 7:=by kernel_rfl
theorem eG:(Tryz.prog.info? 3).map (·.size)=some 1:=by kernel_rfl
theorem bI:(Tryz.prog.info? 29).map (·.size)=some 1:=by kernel_rfl
def iH(j:Ins):Array Value:=#[.int .i64 j.op,.int .i64 j.d,.int .i64 j.s,.int .u16 j.im,.int .u16 j.ax,.int .i64 j.bk,.int .i64 j.sz]
structure TmB(n:Nat)(w W:World):Prop where
 box:∃ j:Ins,j.Ok∧W.heap[n]? =some (.cells (iH j) 58 (0,0))
 res:∃ A,W.heap[n+1]? =some (.cells A 58 (0,0))∧A.size=7
 bel:Below n w W
theorem TmB.new(w:World)(j:Ins)(hj:j.Ok)(Z:Array Value)(hz:Z.size=7):TmB w.heap.size w ((w.alloc (.cells (iH j) 58)).alloc (.cells Z 58)):=by
 have h:=heap_alloc_new (w.alloc (.cells (iH j) 58)) (.cells Z 58);rw[World.size_alloc] at h;exact⟨⟨j,hj,aj _ _ _ (heap_alloc_new w _)⟩,⟨_,h,hz⟩,((Below.refl _ w).alloc (Nat.le_refl _) _).alloc (by simp) _⟩
theorem TmB.set{n:Nat}{w W:World}(h:TmB n w W)(k:Nat)(v:Value)(hv:∀ j:Ins,j.Ok→∃ j':Ins,j'.Ok∧(iH j).setIfInBounds k v=iH j'):TmB n w (W.setCell ⟨n,k,none⟩ v):=by
 obtain⟨j,hj,hb⟩:=h.box;obtain⟨j',hj',e⟩:=hv j hj;have h1:=bP W n k v _ _ _ hb;rw[e] at h1;obtain⟨A,hA,hs⟩:=h.res;exact⟨⟨j',hj',h1⟩,⟨A,(dn W ⟨n,k,none⟩ v (n+1) (by simp)).trans hA,hs⟩,h.bel.setCell (p:=⟨n,k,none⟩) (Nat.le_refl _) v⟩
theorem lU{P:Program}(w:World)(b o:Nat)(ty:TypeId)(k:IntKind)(x:Int)(hc:(w.cell? ⟨b,o,none⟩).isSome=true)(hf:w.frozen? ⟨b,o,none⟩=false)(hi:(P.info? ty).map (·.size)=some 1):
  (storeVar ty ⟨b,o,none⟩ (.int k x)).run P w= .ok () (w.setCell ⟨b,o,none⟩ (.int k x)):=by
 have:=run_storeCells_cells (P:=P) b o [.int k x] 0 w (fun j hj=>by obtain rfl:j=0:=(by simpa using hj);simpa using hc) (fun j hj=>by obtain rfl:j=0:=(by simpa using hj);simpa using hf) (fun v hv=>by simp at hv;subst hv;rfl);cases hq:P.info? ty with
 | none=>simp[hq] at hi
 | some i=>
  have hs:i.size=1:=by simpa [hq] using hi
  simp only[Nat.add_zero] at this;simp[storeVar,sizeOf,typeInfo,hq,Value.cells,hs,this,World.setCells]
theorem aW{n:Nat}{w W:World}(H:Hid (TmB n w W)){ops:Array Oper}{rest:List Oper}{o:Oper}{a:Act}{Q:Exit→Act→World→Prop}(hgd:o.guard=none)(ty:TypeId)(x y:Operand)(ho:o.op= .store ty x y)
  (k:Nat) (hk:k < 7) (hx:a.eval x= .pointer (some ⟨n,k,none⟩)) (q:IntKind) (v:Int) (hy:a.eval y= .int q v) (hi:(Tryz.prog.info? ty).map (·.size)=some 1)
  (hv:∀ j:Ins,j.Ok→∃ j':Ins,j'.Ok∧(iH j).setIfInBounds k (.int q v)=iH j')
  (h:∀ W',Hid (TmB n w W')→wpList Tryz.prog ops Q rest (a.put o.dst undef) W'):wpList Tryz.prog ops Q (o::rest) a W:=by
 obtain⟨j,hj,hb⟩:=H.out.box;have hs:k < (iH j).size:=hk;have hc:=ae hb k _ (Array.getElem?_eq_getElem hs);have hf:=frozen_of_row W n k _ _ hb;refine wpList_plain hgd fun _ hK=>?_
 unfold Oper.wp execOp;simp only[ho,hx,hy,Instr.storeAt,Instr.sureAddr,Sem.run_bind,Sem.run_pure,Result.andThen_ok,lU W n k ty q v (by rw[hc];rfl) hf hi];exact hK _ _ (h _ (Nc (H.out.set k _ hv)))
theorem Ik{n:Nat}{w W:World}(H:Hid (TmB n w W)){ops:Array Oper}{rest:List Oper}{o:Oper}{a:Act}{Q:Exit→Act→World→Prop}(hgd:o.guard=none)(x y:Operand)(ho:o.op= .store 58 x y)
  (hx:a.eval x= .pointer (some ⟨n,0,none⟩)) (j:Ins) (hj:j.Ok) (hy:a.eval y= .agg (iH j))
  (h:∀ W',Hid (TmB n w W')→wpList Tryz.prog ops Q rest (a.put o.dst undef) W'):wpList Tryz.prog ops Q (o::rest) a W:=by
 obtain⟨⟨j0,_,hb⟩,⟨A,hA,hs⟩,hbel⟩:=H.out;exact wpList_store_row hgd 58 x y ho n (iH j) hx hy 58 _ hb jv (by rfl) (by simp[iH,Value.oneCell']) (h _ (Nc ⟨⟨j,hj,setRow_heap W n _ _ 58 (0,0) hb⟩,⟨A,(setRow_other W n (n+1) _ (by omega)).trans hA,hs⟩,below_setRow hbel (Nat.le_refl _) _⟩))
theorem ja(v:Int)(h0: -9223372036854775808≤v)(h1:v≤9223372036854775807)(k:Nat)(hk:k=0∨k=1∨k=2∨k=5∨k=6)(j:Ins)(hj:j.Ok):∃ j':Ins,j'.Ok∧(iH j).setIfInBounds k (.int .i64 v)=iH j':=by
 obtain⟨op,d,s,im,ax,bk,sz⟩:=j;obtain⟨b0,b1,b2,b3,b4,b5,b6,b7,b8,b9,ba,bb,bc,bd⟩:=hj;rcases hk with rfl|rfl|rfl|rfl|rfl
 ·exact⟨⟨v,d,s,im,ax,bk,sz⟩,by constructor<;>assumption,rfl⟩
 ·exact⟨⟨op,v,s,im,ax,bk,sz⟩,by constructor<;>assumption,rfl⟩
 ·exact⟨⟨op,d,v,im,ax,bk,sz⟩,by constructor<;>assumption,rfl⟩
 ·exact⟨⟨op,d,s,im,ax,v,sz⟩,by constructor<;>assumption,rfl⟩
 ·exact⟨⟨op,d,s,im,ax,bk,v⟩,by constructor<;>assumption,rfl⟩
theorem iw(v:Int)(h0:0≤v)(h1:v < 65536)(k:Nat)(hk:k=3∨k=4)(j:Ins)(hj:j.Ok):∃ j':Ins,j'.Ok∧(iH j).setIfInBounds k (.int .u16 v)=iH j':=by
 obtain⟨op,d,s,im,ax,bk,sz⟩:=j;obtain⟨b0,b1,b2,b3,b4,b5,b6,b7,b8,b9,ba,bb,bc,bd⟩:=hj;rcases hk with rfl|rfl
 ·exact⟨⟨op,d,s,v,ax,bk,sz⟩,by constructor<;>assumption,rfl⟩
 ·exact⟨⟨op,d,s,im,v,bk,sz⟩,by constructor<;>assumption,rfl⟩
theorem yt{n:Nat}{w W:World}(H:Hid (TmB n w W)){ops:Array Oper}{rest:List Oper}{o:Oper}{a:Act}{Q:Exit→Act→World→Prop}(hgd:o.guard=none)(x:Operand)(ho:o.op= .load 58 x)
  (hx:a.eval x= .pointer (some ⟨n,0,none⟩)) (h:∀ j:Ins,j.Ok→wpList Tryz.prog ops Q rest (a.put o.dst (.agg (iH j))) W):wpList Tryz.prog ops Q (o::rest) a W:=by
 obtain⟨j,hj,hb⟩:=H.out.box;exact wpList_load_mid hgd 58 x ho n 0 hx (iH j).toList _ (fun i v hv=>by rw[Nat.zero_add];exact ae hb i _ (by rw[← hv];simp)) Tryz.underlying58 rfl jv (h j hj)
theorem Bc{n:Nat}{w W:World}(H:Hid (TmB n w W)){ops:Array Oper}{rest:List Oper}{o:Oper}{a:Act}{Q:Exit→Act→World→Prop}(hgd:o.guard=none)(x y:Operand)(ho:o.op= .store 58 x y)
  (hx:a.eval x= .pointer (some ⟨n+1,0,none⟩)) (j:Ins) (hy:a.eval y= .agg (iH j))
  (h:∀ W',Hid (W'.heap[n+1]? =some (.cells (iH j) 58 (0,0)))→Hid (Below n w W')→wpList Tryz.prog ops Q rest (a.put o.dst undef) W'):wpList Tryz.prog ops Q (o::rest) a W:=by
 obtain⟨_,⟨A,hA,hs⟩,hbel⟩:=H.out;exact wpList_store_row hgd 58 x y ho (n+1) (iH j) hx hy 58 _ hA jv (by rw[hs];rfl) (by simp[iH,Value.oneCell']) (h _ (Nc (setRow_heap W (n+1) _ _ 58 (0,0) hA)) (Nc (below_setRow hbel (Nat.le_succ _) _)))
def TmE(w:World)(e:Ending)(w':World):Prop:=(∃ j:Ins,e= .returned (dN j)∧j.Ok)∧Below w.heap.size w w'
set_option maxHeartbeats 8000000 in
theorem EP(j:Ins)(k:Int)(w:World)(hj:j.Ok):Calls Tryz.prog 82 #[dN j,.int .i64 k] w (TmE w):=by
 show Calls Tryz.prog 82 #[.agg #[.int .i64 j.op,.int .i64 j.d,.int .i64 j.s,.int .u16 j.im,.int .u16 j.ax,.int .i64 j.bk,.int .i64 j.sz],.int .i64 k] w (TmE w);obtain⟨kk,hkk⟩:∃ kk,k%65536=kk:=⟨_,rfl⟩;have k0:0≤kk:=by omega
 have k1:kk < 65536:=by omega
 have hk:=oh k;rw[hkk] at hk;clear hkk;have H0:=Nc (TmB.new w j hj #[.int .i64 0,.int .i64 0,.int .i64 0,.int .u16 0,.int .u16 0,.int .i64 0,.int .i64 0] rfl);have HB:=H0;unfold iH at HB;clear hj;go_enter Tryz.func82,Tryz.ntmps82
 obtain⟨W0,hW0⟩:∃ W,(w.alloc (.cells #[.int .i64 j.op,.int .i64 j.d,.int .i64 j.s,.int .u16 j.im,.int .u16 j.ax,.int .i64 j.bk,.int .i64 j.sz] 58)).alloc (.cells #[.int .i64 0,.int .i64 0,.int .i64 0,.int .u16 0,.int .u16 0,.int .i64 0,.int .i64 0] 58)=W:=⟨_,rfl⟩;have hj0:(w.alloc (.cells #[.int .i64 j.op,.int .i64 j.d,.int .i64 j.s,.int .u16 j.im,.int .u16 j.ax,.int .i64 j.bk,.int .i64 j.sz] 58)).heap.size=w.heap.size+1:=World.size_alloc _ _;go_upto_region 2 with fail
 rw[hW0] at HB;obtain⟨n,hn⟩:∃ n,w.heap.size=n:=⟨_,rfl⟩;have HN:=Nc hn;rw[hn] at HB;rw[hn];clear hW0 hn H0 hj0;go_cut [10] (fun v wx=>(∃ b:Bool,v= .bool b)∧wx=W0)
 case first=>(go_wp2_with fail)<;>(go_meet;exact⟨⟨_,rfl⟩,rfl⟩)
 case rest=>
 obtain⟨⟨b,rfl⟩,rfl⟩:=hcut;go_upto_if 10 with fail
 go_cut [5] (fun v wx=>Hid (TmB n w wx))
 case first=>
  cases b
  ·go_wp2_with fail
   go_meet
   exact HB
  ·go_wp2_with (first
    | refine yt HB rfl _ rfl rfl (fun j' hj'=>?_)
    | refine Bc HB rfl _ _ rfl rfl _ rfl (fun W' h1 h2=>?_))
   refine bodyPost_ret (v:= .agg (iH j')) (results_cell_row rfl _ _ (n+1) 58 _ (0,0) _ rfl h1.out Tryz.underlying58 rfl jv) rfl ?_;exact⟨⟨j',rfl,hj'⟩,by rw[HN.out];exact h2.out⟩
 case rest=>
 clear HB;obtain⟨W1,hW1⟩:∃ W,wc=W:=⟨_,rfl⟩;subst hW1;obtain⟨j1,hj1,hb1⟩:=hcut.out.box;have c0:=ae hb1 0 _ rfl;have HC:=hcut;clear hcut hb1 hj1;go_upto_region 4 with fail
 go_cut [5] (fun v wx=>(∃ x:Int,v= .int .i64 x)∧wx=wc)
 case first=>(go_wp2_with fail)<;>(go_meet;exact⟨⟨_,rfl⟩,rfl⟩)
 case rest=>
 obtain⟨⟨op,rfl⟩,rfl⟩:=hcut;go_upto_block 0 with fail
 go_cut [5] (fun v wx=>Hid (TmB n w wx))
 case first=>as_aux_lemma=>
  go_upto_region 5 with fail
  go_cut [5,14] from 15 to 20 (fun z v wx=>(∃ x:Int,z= .int .i64 x)∧(∃ b:Bool,v= .bool b)∧wx=wc)
  case first=>as_aux_lemma=>(go_wp2_with fail)<;>(go_meet;exact⟨⟨_,rfl⟩,⟨_,rfl⟩,rfl⟩)
  case rest=>
  obtain⟨⟨op,rfl⟩,⟨b0,rfl⟩,rfl⟩:=hcut;cases b0
  case true=>as_aux_lemma=>
   go_wp2_with (first
    | refine aW (by assumption) rfl _ _ _ rfl _ (by decide) rfl _ _ rfl eG (ja _ (by omega) (by omega) _ (by simp)) (fun W' h'=>?_)
    | refine aW (by assumption) rfl _ _ _ rfl _ (by decide) rfl _ _ rfl bI (iw _ (fM _).1 (fM _).2 _ (by simp)) (fun W' h'=>?_)
    | refine aW (by assumption) rfl _ _ _ rfl _ (by decide) rfl _ _ rfl bI (iw _ (by omega) (by omega) _ (by simp)) (fun W' h'=>?_))
   go_meet
   assumption
  case false=>
  go_upto_region 8 with fail
  go_cut [5,27] from 28 to 37 (fun z v wx=>(∃ x:Int,z= .int .i64 x)∧(∃ b:Bool,v= .bool b)∧wx=wc)
  case first=>as_aux_lemma=>(go_wp2_with fail)<;>(go_meet;exact⟨⟨_,rfl⟩,⟨_,rfl⟩,rfl⟩)
  case rest=>
  obtain⟨⟨op,rfl⟩,⟨b1,rfl⟩,rfl⟩:=hcut;cases b1
  case true=>as_aux_lemma=>
   go_wp2_with (first
    | refine aW (by assumption) rfl _ _ _ rfl _ (by decide) rfl _ _ rfl eG (ja _ (by omega) (by omega) _ (by simp)) (fun W' h'=>?_)
    | refine aW (by assumption) rfl _ _ _ rfl _ (by decide) rfl _ _ rfl bI (iw _ (fM _).1 (fM _).2 _ (by simp)) (fun W' h'=>?_)
    | refine aW (by assumption) rfl _ _ _ rfl _ (by decide) rfl _ _ rfl bI (iw _ (by omega) (by omega) _ (by simp)) (fun W' h'=>?_))
   go_meet
   assumption
  case false=>
  go_upto_region 11 with fail
  go_cut [5,44] from 45 to 50 (fun z v wx=>(∃ x:Int,z= .int .i64 x)∧(∃ b:Bool,v= .bool b)∧wx=wc)
  case first=>as_aux_lemma=>(go_wp2_with fail)<;>(go_meet;exact⟨⟨_,rfl⟩,⟨_,rfl⟩,rfl⟩)
  case rest=>
  obtain⟨⟨op,rfl⟩,⟨b2,rfl⟩,rfl⟩:=hcut;cases b2
  case true=>as_aux_lemma=>
   go_wp2_with (first
    | refine aW (by assumption) rfl _ _ _ rfl _ (by decide) rfl _ _ rfl eG (ja _ (by omega) (by omega) _ (by simp)) (fun W' h'=>?_)
    | refine aW (by assumption) rfl _ _ _ rfl _ (by decide) rfl _ _ rfl bI (iw _ (fM _).1 (fM _).2 _ (by simp)) (fun W' h'=>?_)
    | refine aW (by assumption) rfl _ _ _ rfl _ (by decide) rfl _ _ rfl bI (iw _ (by omega) (by omega) _ (by simp)) (fun W' h'=>?_))
   go_meet
   assumption
  case false=>
  go_upto_region 13 with fail
  go_cut [5,57] from 58 to 63 (fun z v wx=>(∃ x:Int,z= .int .i64 x)∧(∃ b:Bool,v= .bool b)∧wx=wc)
  case first=>as_aux_lemma=>(go_wp2_with fail)<;>(go_meet;exact⟨⟨_,rfl⟩,⟨_,rfl⟩,rfl⟩)
  case rest=>
  obtain⟨⟨op,rfl⟩,⟨b3,rfl⟩,rfl⟩:=hcut;cases b3
  case true=>as_aux_lemma=>
   go_wp2_with (first
    | refine aW (by assumption) rfl _ _ _ rfl _ (by decide) rfl _ _ rfl eG (ja _ (by omega) (by omega) _ (by simp)) (fun W' h'=>?_)
    | refine aW (by assumption) rfl _ _ _ rfl _ (by decide) rfl _ _ rfl bI (iw _ (fM _).1 (fM _).2 _ (by simp)) (fun W' h'=>?_)
    | refine aW (by assumption) rfl _ _ _ rfl _ (by decide) rfl _ _ rfl bI (iw _ (by omega) (by omega) _ (by simp)) (fun W' h'=>?_))
   go_meet
   assumption
  case false=>
  go_upto_region 15 with fail
  go_cut [5,70] from 71 to 80 (fun z v wx=>(∃ x:Int,z= .int .i64 x)∧(∃ b:Bool,v= .bool b)∧wx=wc)
  case first=>as_aux_lemma=>(go_wp2_with fail)<;>(go_meet;exact⟨⟨_,rfl⟩,⟨_,rfl⟩,rfl⟩)
  case rest=>
  obtain⟨⟨op,rfl⟩,⟨b4,rfl⟩,rfl⟩:=hcut;cases b4
  case true=>as_aux_lemma=>
   go_wp2_with (first
    | refine aW (by assumption) rfl _ _ _ rfl _ (by decide) rfl _ _ rfl eG (ja _ (by omega) (by omega) _ (by simp)) (fun W' h'=>?_)
    | refine aW (by assumption) rfl _ _ _ rfl _ (by decide) rfl _ _ rfl bI (iw _ (fM _).1 (fM _).2 _ (by simp)) (fun W' h'=>?_)
    | refine aW (by assumption) rfl _ _ _ rfl _ (by decide) rfl _ _ rfl bI (iw _ (by omega) (by omega) _ (by simp)) (fun W' h'=>?_))
   go_meet
   assumption
  case false=>
  go_upto_region 17 with fail
  go_cut [5,87] from 88 to 93 (fun z v wx=>(∃ x:Int,z= .int .i64 x)∧(∃ b:Bool,v= .bool b)∧wx=wc)
  case first=>as_aux_lemma=>(go_wp2_with fail)<;>(go_meet;exact⟨⟨_,rfl⟩,⟨_,rfl⟩,rfl⟩)
  case rest=>
  obtain⟨⟨op,rfl⟩,⟨b5,rfl⟩,rfl⟩:=hcut;cases b5
  case true=>as_aux_lemma=>
   go_wp2_with (first
    | refine aW (by assumption) rfl _ _ _ rfl _ (by decide) rfl _ _ rfl eG (ja _ (by omega) (by omega) _ (by simp)) (fun W' h'=>?_)
    | refine aW (by assumption) rfl _ _ _ rfl _ (by decide) rfl _ _ rfl bI (iw _ (fM _).1 (fM _).2 _ (by simp)) (fun W' h'=>?_)
    | refine aW (by assumption) rfl _ _ _ rfl _ (by decide) rfl _ _ rfl bI (iw _ (by omega) (by omega) _ (by simp)) (fun W' h'=>?_))
   go_meet
   assumption
  case false=>
  go_upto_region 20 with fail
  go_cut [5,108] from 109 to 110 (fun z v wx=>(∃ x:Int,z= .int .i64 x)∧(∃ b:Bool,v= .bool b)∧wx=wc)
  case first=>as_aux_lemma=>(go_wp2_with fail)<;>(go_meet;exact⟨⟨_,rfl⟩,⟨_,rfl⟩,rfl⟩)
  case rest=>
  obtain⟨⟨op,rfl⟩,⟨b6,rfl⟩,rfl⟩:=hcut;cases b6
  case true=>as_aux_lemma=>
   go_wp2_with (first
    | refine aW (by assumption) rfl _ _ _ rfl _ (by decide) rfl _ _ rfl eG (ja _ (by omega) (by omega) _ (by simp)) (fun W' h'=>?_)
    | refine aW (by assumption) rfl _ _ _ rfl _ (by decide) rfl _ _ rfl bI (iw _ (fM _).1 (fM _).2 _ (by simp)) (fun W' h'=>?_)
    | refine aW (by assumption) rfl _ _ _ rfl _ (by decide) rfl _ _ rfl bI (iw _ (by omega) (by omega) _ (by simp)) (fun W' h'=>?_))
   go_meet
   assumption
  case false=>
  go_upto_region 23 with fail
  go_cut [5,117] from 118 to 119 (fun z v wx=>(∃ x:Int,z= .int .i64 x)∧(∃ b:Bool,v= .bool b)∧wx=wc)
  case first=>as_aux_lemma=>(go_wp2_with fail)<;>(go_meet;exact⟨⟨_,rfl⟩,⟨_,rfl⟩,rfl⟩)
  case rest=>
  obtain⟨⟨op,rfl⟩,⟨b7,rfl⟩,rfl⟩:=hcut;cases b7
  case true=>as_aux_lemma=>
   go_wp2_with (first
    | refine aW (by assumption) rfl _ _ _ rfl _ (by decide) rfl _ _ rfl eG (ja _ (by omega) (by omega) _ (by simp)) (fun W' h'=>?_)
    | refine aW (by assumption) rfl _ _ _ rfl _ (by decide) rfl _ _ rfl bI (iw _ (fM _).1 (fM _).2 _ (by simp)) (fun W' h'=>?_)
    | refine aW (by assumption) rfl _ _ _ rfl _ (by decide) rfl _ _ rfl bI (iw _ (by omega) (by omega) _ (by simp)) (fun W' h'=>?_))
   go_meet
   assumption
  case false=>
  go_upto_region 26 with fail
  go_cut [5,122] from 123 to 128 (fun z v wx=>(∃ x:Int,z= .int .i64 x)∧(∃ b:Bool,v= .bool b)∧wx=wc)
  case first=>as_aux_lemma=>(go_wp2_with fail)<;>(go_meet;exact⟨⟨_,rfl⟩,⟨_,rfl⟩,rfl⟩)
  case rest=>
  obtain⟨⟨op,rfl⟩,⟨b8,rfl⟩,rfl⟩:=hcut;cases b8
  case true=>as_aux_lemma=>
   go_wp2_with (first
    | refine aW (by assumption) rfl _ _ _ rfl _ (by decide) rfl _ _ rfl eG (ja _ (by omega) (by omega) _ (by simp)) (fun W' h'=>?_)
    | refine aW (by assumption) rfl _ _ _ rfl _ (by decide) rfl _ _ rfl bI (iw _ (fM _).1 (fM _).2 _ (by simp)) (fun W' h'=>?_)
    | refine aW (by assumption) rfl _ _ _ rfl _ (by decide) rfl _ _ rfl bI (iw _ (by omega) (by omega) _ (by simp)) (fun W' h'=>?_))
   go_meet
   assumption
  case false=>
  go_upto_region 29 with fail
  go_cut [5,134] from 135 to 140 (fun z v wx=>(∃ x:Int,z= .int .i64 x)∧(∃ b:Bool,v= .bool b)∧wx=wc)
  case first=>as_aux_lemma=>(go_wp2_with fail)<;>(go_meet;exact⟨⟨_,rfl⟩,⟨_,rfl⟩,rfl⟩)
  case rest=>
  obtain⟨⟨op,rfl⟩,⟨b9,rfl⟩,rfl⟩:=hcut;cases b9
  case true=>as_aux_lemma=>
   go_wp2_with (first
    | refine aW (by assumption) rfl _ _ _ rfl _ (by decide) rfl _ _ rfl eG (ja _ (by omega) (by omega) _ (by simp)) (fun W' h'=>?_)
    | refine aW (by assumption) rfl _ _ _ rfl _ (by decide) rfl _ _ rfl bI (iw _ (fM _).1 (fM _).2 _ (by simp)) (fun W' h'=>?_)
    | refine aW (by assumption) rfl _ _ _ rfl _ (by decide) rfl _ _ rfl bI (iw _ (by omega) (by omega) _ (by simp)) (fun W' h'=>?_))
   go_meet
   assumption
  case false=>
  go_upto_region 31 with fail
  go_cut [5,146] from 147 to 152 (fun z v wx=>(∃ x:Int,z= .int .i64 x)∧(∃ b:Bool,v= .bool b)∧wx=wc)
  case first=>as_aux_lemma=>(go_wp2_with fail)<;>(go_meet;exact⟨⟨_,rfl⟩,⟨_,rfl⟩,rfl⟩)
  case rest=>
  obtain⟨⟨op,rfl⟩,⟨b10,rfl⟩,rfl⟩:=hcut;cases b10
  case true=>as_aux_lemma=>
   go_wp2_with (first
    | refine aW (by assumption) rfl _ _ _ rfl _ (by decide) rfl _ _ rfl eG (ja _ (by omega) (by omega) _ (by simp)) (fun W' h'=>?_)
    | refine aW (by assumption) rfl _ _ _ rfl _ (by decide) rfl _ _ rfl bI (iw _ (fM _).1 (fM _).2 _ (by simp)) (fun W' h'=>?_)
    | refine aW (by assumption) rfl _ _ _ rfl _ (by decide) rfl _ _ rfl bI (iw _ (by omega) (by omega) _ (by simp)) (fun W' h'=>?_))
   go_meet
   assumption
  case false=>
  go_upto_region 33 with fail
  go_cut [5,159] from 160 to 165 (fun z v wx=>(∃ x:Int,z= .int .i64 x)∧(∃ b:Bool,v= .bool b)∧wx=wc)
  case first=>as_aux_lemma=>(go_wp2_with fail)<;>(go_meet;exact⟨⟨_,rfl⟩,⟨_,rfl⟩,rfl⟩)
  case rest=>
  obtain⟨⟨op,rfl⟩,⟨b11,rfl⟩,rfl⟩:=hcut;cases b11
  case true=>as_aux_lemma=>
   go_wp2_with (first
    | refine aW (by assumption) rfl _ _ _ rfl _ (by decide) rfl _ _ rfl eG (ja _ (by omega) (by omega) _ (by simp)) (fun W' h'=>?_)
    | refine aW (by assumption) rfl _ _ _ rfl _ (by decide) rfl _ _ rfl bI (iw _ (fM _).1 (fM _).2 _ (by simp)) (fun W' h'=>?_)
    | refine aW (by assumption) rfl _ _ _ rfl _ (by decide) rfl _ _ rfl bI (iw _ (by omega) (by omega) _ (by simp)) (fun W' h'=>?_))
   go_meet
   assumption
  case false=>
  go_upto_region 35 with fail
  go_cut [5,171] from 172 to 177 (fun z v wx=>(∃ x:Int,z= .int .i64 x)∧(∃ b:Bool,v= .bool b)∧wx=wc)
  case first=>as_aux_lemma=>(go_wp2_with fail)<;>(go_meet;exact⟨⟨_,rfl⟩,⟨_,rfl⟩,rfl⟩)
  case rest=>
  obtain⟨⟨op,rfl⟩,⟨b12,rfl⟩,rfl⟩:=hcut;cases b12
  case true=>as_aux_lemma=>
   go_wp2_with (first
    | refine aW (by assumption) rfl _ _ _ rfl _ (by decide) rfl _ _ rfl eG (ja _ (by omega) (by omega) _ (by simp)) (fun W' h'=>?_)
    | refine aW (by assumption) rfl _ _ _ rfl _ (by decide) rfl _ _ rfl bI (iw _ (fM _).1 (fM _).2 _ (by simp)) (fun W' h'=>?_)
    | refine aW (by assumption) rfl _ _ _ rfl _ (by decide) rfl _ _ rfl bI (iw _ (by omega) (by omega) _ (by simp)) (fun W' h'=>?_)
    | refine Ik (by assumption) rfl _ _ rfl rfl ⟨0,0,0,0,0,0,1⟩ (by constructor<;>decide) rfl (fun W' h'=>?_))
   go_meet
   assumption
  case false=>
  go_wp2_with fail
  go_meet
  exact HC
 case rest=>
 clear HC c0;obtain⟨W2,hW2⟩:∃ W,wc=W:=⟨_,rfl⟩;subst hW2;obtain⟨j2,hj2,hb2⟩:=hcut.out.box;have c1:wc.cell? ⟨n,1,none⟩=some (.int .i64 j2.d):=ae hb2 1 _ rfl;have HC:=hcut;clear hcut hb2 hj2;go_upto_region 37 with fail
 go_cut [186] (fun v wx=>(∃ b:Bool,v= .bool b)∧wx=wc)
 case first=>as_aux_lemma=>(go_wp2_with fail)<;>(go_meet;exact⟨⟨_,rfl⟩,rfl⟩)
 case rest=>
 obtain⟨⟨b9,rfl⟩,rfl⟩:=hcut;clear c1;go_upto_if 186 with fail
 go_cut [5] (fun v wx=>Hid (TmB n w wx))
 case first=>as_aux_lemma=>
  cases b9
  case true=>
   go_wp2_with (first
    | refine aW (by assumption) rfl _ _ _ rfl _ (by decide) rfl _ _ rfl eG (ja _ (by omega) (by omega) _ (by simp)) (fun W' h'=>?_)
    | refine aW (by assumption) rfl _ _ _ rfl _ (by decide) rfl _ _ rfl bI (iw _ (fM _).1 (fM _).2 _ (by simp)) (fun W' h'=>?_)
    | refine aW (by assumption) rfl _ _ _ rfl _ (by decide) rfl _ _ rfl bI (iw _ (by omega) (by omega) _ (by simp)) (fun W' h'=>?_))
   go_meet
   assumption
  case false=>
   go_wp2_with fail
   go_meet
   exact HC
 case rest=>
 go_wp2_with (first
  | refine yt hcut rfl _ rfl rfl (fun j' hj'=>?_)
  | refine Bc hcut rfl _ _ rfl rfl _ rfl (fun W' h1 h2=>?_))
 refine bodyPost_ret (v:= .agg (iH j')) (results_cell_row rfl _ _ (n+1) 58 _ (0,0) _ rfl h1.out Tryz.underlying58 rfl jv) rfl ?_;exact⟨⟨j',rfl,hj'⟩,by rw[HN.out];exact h2.out⟩

theorem I9:(Tryz.prog.info? 53).map (·.size)=some 5:=by kernel_rfl
def Rw5(w:World)(p:Option Addr)(n:Nat):Prop:=∀ i,i < n→∃ g o q0 q1 q2 q3 q4,p=some ⟨g,o,none⟩∧∀ W,Below w.heap.size w W→W.rangeAt g (o+i*5) [.int .i64 q0,.int .i64 q1,.int .i64 q2,.int .i64 q3,.int .i64 q4]
theorem y9(i:Ins):(encS i).size≤9:=by
 unfold encS
 split
 ·split
  ·rw[uP];exact Gm _
  ·exact Nat.zero_le _
 ·exact Nat.zero_le _
set_option maxHeartbeats 4000000 in
theorem pg(p:Option Addr)(n c:Nat)(w:World)(h:Rw5 w p n)(hn:n≤9223372036854775807):
  Calls Tryz.prog 56 #[.slice p n c,.int .i64 40] w fun e w'=>(∃ b:ByteArray,e= .returned (.string b)∧b.size≤360)∧Below w.heap.size w w':=by
 have HR:=Nc h;have H0:=Nc (Below.refl w.heap.size w);have hn1:(n:Int)≤9223372036854775807:=by omega
 clear h hn;go_enter Tryz.func56,Tryz.ntmps56
 go_wp2_with fail
 go_loopw [5,6,7,8] (fun s i _ _ wr=>∃ (k:Nat) (b:ByteArray),k≤40∧b.size≤9*k∧s= .string b∧i= .int .i64 k∧Hid (Below w.heap.size w wr)) (fun _ i _ _ _=>40-(intOf i).toNat)
 case atStart=>exact⟨0,⟨#[]⟩,Nat.zero_le _,Nat.le_refl _,rfl,rfl,H0⟩
 case round=>
  obtain⟨k,b,hk,hb,rfl,rfl,HK⟩:=hrel;have HBZ:=Nc hb;clear hb;by_cases h1:k < n
  ·have h1':(k:Int) < (n:Int):=by omega
   have hk0:(0:Int)≤(k:Int):=by omega
   by_cases h2:k < 40
   ·have h2':(k:Int) < 40:=by omega
    obtain⟨g,o,q0,q1,q2,q3,q4,hp,hr⟩:=HR.out k h1;subst hp;have HRr:=Nc hr;have HS:=Nc (fun W (hb:Below w.heap.size w W)=>And.intro (hr W hb) (show W.cell? ⟨g,o+k*5+4,none⟩=some (.int .i64 q4) from hr W hb 4 _ rfl));have HM:=Nc (fun W=>Di q0 q1 q2 q3 q4 W);have HMo:=Nc (zX q0 q1 q2 q3 q4).1;have HT:=Nc (fun W=>EP (fG q0 q1 q2 q3 q4) q4 W HMo.out);clear hr;have HW:=Nc (show Below w.heap.size w wr.drew from HK.out.drew);go_upto_region 5 with fail
    refine wp_region_held_drew (S:=fun w'=>w'.rangeAt g (o+k*5) [.int .i64 q0,.int .i64 q1,.int .i64 q2,.int .i64 q3,.int .i64 q4]∧w'.cell? ⟨g,o+k*5+4,none⟩=some (.int .i64 q4)) (by kernel_rfl) (HS.out _ HW.out) (fun hHeld=>?_);refine tq 0 rfl ?_;refine tq 1 rfl ?_;refine tq 2 rfl ?_;refine tk 3 _ rfl (yieldsIf_load_mid (by rfl) 53 _ rfl g (o+k*5) rfl [.int .i64 q0,.int .i64 q1,.int .i64 q2,.int .i64 q3,.int .i64 q4] _ (fun w hw=>hw.1) Tryz.underlying53 rfl I9) ?_;refine tq 5 rfl ?_;refine tq 6 rfl ?_;refine tq 7 rfl ?_;refine tq 8 rfl ?_;refine tq 9 rfl ?_;refine rd1 4 rfl (fun K hK=>?_);go_simp;go_at_call 20;with_reducible refine(HM.out _).mono ?_
    rintro e w1 ⟨rfl,hb1⟩;have B1:=Nc (HW.out.trans (hb1.mono HW.out.size));clear hb1;go_wp2_with fail
    refine hK.out _ _ (HS.out _ B1.out) (fun hHeld=>?_);clear hK K
    try simp only[lay]
    refine rd1 10 rfl (fun K hK=>?_);go_simp;go_at_call 82;with_reducible refine(HT.out _).mono ?_
    rintro e w2 ⟨⟨j,rfl,hj⟩,hb2⟩;have B2:=Nc (B1.out.trans (hb2.mono B1.out.size));have HE:=Nc (fun W=>vM j W hj);clear hb2 hj;go_wp2_with fail
    refine hK.out _ _ (HS.out _ B2.out) (fun hHeld=>?_);clear hK K
    try simp only[lay]
    refine rd1 11 rfl (fun K hK=>?_);go_simp;go_at_call 19;with_reducible refine(HE.out _).mono ?_
    rintro e w3 ⟨rfl,hb3⟩;have B3:=Nc (B2.out.trans (hb3.mono B2.out.size));clear hb3;go_wp2_with fail
    refine hK.out _ _ (HS.out _ B3.out) (fun hHeld=>?_);clear hK K
    try simp only[lay]
    refine tq 12 rfl ?_;refine tq 13 rfl ?_;refine tq 14 rfl ?_;refine tq 15 rfl ?_;refine tq 16 rfl ?_;refine wpAnyH_done (by kernel_rfl) ?_ _;have HZ:=Nc (show(b++encS j).size≤9*(k+1) from(by rw[ByteArray.size_append];have:=HBZ.out;have:=y9 j;omega));have hlt:¬ 9223372036854775807 < b.size+(encS j).size:=(by have:=HBZ.out;have:=y9 j;omega);go_wp2_with fail
    go_roundw
    case rel=>exact⟨k+1,b++encS j,by omega,HZ.out,rfl,by go_num,B3⟩
    case measure=>simp[intOf];omega
   ·have h2':¬ (k:Int) < 40:=by omega
    go_wp2_with fail
    go_ret
    exact⟨⟨b,rfl,by have:=HBZ.out;omega⟩,HK.out⟩
  ·have h1':¬ (k:Int) < (n:Int):=by omega
   go_wp2_with fail
   go_ret
   exact⟨⟨b,rfl,by have:=HBZ.out;omega⟩,HK.out⟩

def LH(x y:Int):ByteArray:=⟨#[UInt8.ofNat x.toNat,UInt8.ofNat y.toNat]⟩
theorem Aj(w:World)(x y:Int):
  (convert 41 9 (.slice (some ⟨w.heap.size,0,none⟩) 2 2)).run Tryz.prog (w.alloc (.cells #[.int .u8 x,.int .u8 y] 5))= .ok (.string (LH x y)) (w.alloc (.cells #[.int .u8 x,.int .u8 y] 5)):=by
 have hc:=heap_alloc_new w (.cells #[.int .u8 x,.int .u8 y] 5);rw[run_convert_bytes_string _ 41 9 5 _ 2 2 Tryz.underlying41 Tryz.underlying5 Tryz.underlying9];rw[run_bytesToString _ _ 2 2 [x,y] (run_loadCells_list _ _ [.int .u8 x,.int .u8 y] (fun j v hv=>by
  have h:=ae hc j v (by rw[← hv];simp);cases j with
  | zero=>exact h
  | succ j=>rw[← h];simp[Addr.add]))]
 rfl
theorem Fp(n:Int)(w:World)(h0:0≤n)(h1:n < 65536):
  Calls Tryz.prog 55 #[.int .u16 n] w fun e w'=>(∃ b:ByteArray,e= .returned (.string b)∧b.size=2)∧Below w.heap.size w w':=by
 have hcv:=Aj w (n%256) (n/256);have d:=dX n 256 h0;have u:=u16_in (n/256) (by omega) (by omega);go_enter Tryz.func55,Tryz.ntmps55
 go_wp2_with fail
 go_ret
 exact⟨⟨_,rfl,rfl⟩,(Below.refl _ _).alloc (Nat.le_refl _) _⟩

theorem vV{w w':World}{base base':Nat}{e e':TypeId}{size size':Nat}{v v':Value}{n n':Nat}{xs xs':List Value}(h:w.ownsRow base e size v n xs)(h':w.ownsRow base' e' size' v' n' xs')(ne:e≠e')(hg:w.grownBy w' v'.ownBlock):w'.ownsRow base e size v n xs:=by
 refine⟨h.1,?_⟩;rcases h.2 with h0|⟨g,cap,cur,hv,hb,hc,r⟩
 ·exact .inl h0
 ·refine .inr ⟨g,cap,cur,hv,hb,?_,r⟩
  have hlt:g < w.heap.size:=(Array.getElem?_eq_some_iff.1 hc).1;rw[hg.block g hlt ?_]
  ·exact hc
  ·rcases h'.2 with⟨h0,_⟩|⟨g',cap',cur',hv',hb',hc',r'⟩
   ·subst h0;simp[Value.ownBlock]
   ·subst hv'
    intro hq;have:g=g':=by simpa [Value.ownBlock] using hq
    subst this;rw[hc] at hc';simp at hc';exact ne hc'.2
def Ri(w:World)(p:Option Addr)(n:Nat):Prop:=∀ i,i < n→∃ g o x,p=some ⟨g,o,none⟩∧∀ W,Below w.heap.size w W→W.cell? ⟨g,o+i,none⟩=some (.int .i64 x)
structure TpX(B:Nat)(w W:World)(p1 p2:Option Addr)(k l c1 c2:Nat):Prop where
 blk:W.heap[B]? =some (.cells #[.slice p1 k c1,.slice p2 l c2] 43 (0,0))
 o1:∃ y:List Int,(∀ x∈y,0≤x∧x < 65536)∧W.ownsRow (B+1) 29 1 (.slice p1 k c1) k (y.map (Value.int .u16))
 o2:∃ y:List Int,(∀ x∈y,0≤x∧x < 256)∧W.ownsRow (B+1) 5 1 (.slice p2 l c2) l (y.map (Value.int .u8))
 bel:Below w.heap.size w W
 le:w.heap.size+1=B
 res:∃ A,W.heap[w.heap.size]? =some (.cells A 43 (0,0))∧A.size=2
theorem yO(w:World)(base:Nat)(e:TypeId):w.ownsRow base e 1 (.slice none 0 0) 0 []:=⟨rfl,.inl ⟨rfl,rfl⟩⟩
theorem TpX.new(w:World)(A:Array Value)(ha:A.size=2):TpX (w.heap.size+1) w ((w.alloc (.cells A 43)).alloc (.cells #[.slice none 0 0,.slice none 0 0] 43)) none none 0 0 0 0:=by
 have h:=heap_alloc_new (w.alloc (.cells A 43)) (.cells #[.slice none 0 0,.slice none 0 0] 43);rw[World.size_alloc] at h;exact⟨h,⟨[],by simp,yO _ _ _⟩,⟨[],by simp,yO _ _ _⟩,((Below.refl _ w).alloc (Nat.le_refl _) _).alloc (by simp) _,rfl,⟨A,aj _ _ _ (heap_alloc_new w _),ha⟩⟩
theorem oV{w:World}{base:Nat}{e:TypeId}{size n:Nat}{v:Value}{xs:List Value}(h:w.ownsRow base e size v n xs){B:Nat}(hB:B < base)(j:Nat)(u:Value):(w.setCell ⟨B,j,none⟩ u).ownsRow base e size v n xs:=by
 refine⟨h.1,?_⟩;rcases h.2 with h0|⟨g,cap,cur,hv,hb,hc,r⟩
 ·exact .inl h0
 ·exact .inr ⟨g,cap,cur,hv,hb,(dn w ⟨B,j,none⟩ u g (by show g≠B;omega)).trans hc,r⟩
theorem TpX.app1{B k l c1 c2:Nat}{w W w3:World}{p1 p2:Option Addr}{y:List Int}{x:Int}{v3:Value}{o:Obj}(H:TpX B w W p1 p2 k l c1 c2)(hy:∀ x∈y,0≤x∧x < 65536)(hx:0≤x∧x < 65536)
  (h0:W.ownsRow (B+1) 29 1 (.slice p1 k c1) k (y.map (Value.int .u16))) (h3:w3.ownsRow (B+1) 29 1 v3 (k+1) (y.map (Value.int .u16)++[.int .u16 x])) (hg:(W.alloc o).drew.grownBy w3 (Value.slice p1 k c1).ownBlock):
  ∃ q c,v3= .slice q (k+1) c∧Below w.heap.size w w3∧w3.heap[B]? =some (.cells #[.slice p1 k c1,.slice p2 l c2] 43 (0,0))∧TpX B w (w3.setCell ⟨B,0,none⟩ v3) q p2 (k+1) l c c2:=by
 have hlt:B < W.heap.size:=(Array.getElem?_eq_some_iff.1 H.blk).1;have hg':W.grownBy w3 (Value.slice p1 k c1).ownBlock:=⟨hg.os,hg.tape,hg.output,Nat.le_trans (by show _≤(W.alloc o).heap.size;rw[World.size_alloc];omega) hg.size,fun i hi hne=>(hg.block i (by show _ < (W.alloc o).heap.size;rw[World.size_alloc];omega) hne).trans (aj _ _ _ (Array.getElem?_eq_getElem hi) |>.trans (Array.getElem?_eq_getElem hi).symm)⟩;have hB:=hg'.block B hlt (fun e=>by have:=jL h0 B e.symm;omega);have hR:=hg'.block w.heap.size (by have:=H.le;omega) (fun e=>by have:=jL h0 _ e.symm;have:=H.le;omega);obtain⟨g,cap,hv,hb,hc⟩:=h3.form (by omega);subst hv;obtain⟨y2,hy2,h2⟩:=H.o2;obtain⟨A,hA,hs⟩:=H.res;have hbk:=hB.trans H.blk;have hbl:=H.bel.grown hg' H.bel.size (fun k hk=>by have:=jL h0 k hk;have:=H.le;omega);refine⟨_,_,rfl,hbl,hbk,bP w3 B 0 _ _ _ _ hbk,⟨y++[x],?_,?_⟩,⟨y2,hy2,?_⟩,?_,H.le,⟨A,(dn w3 ⟨B,0,none⟩ _ _ (by have:=H.le;simp;omega)).trans (hR.trans hA),hs⟩⟩
 ·intro z hz
  rcases List.mem_append.1 hz with h|h
  ·exact hy z h
  ·rw[List.mem_singleton.1 h];exact hx
 ·rw[List.map_append];exact oV h3 (Nat.lt_succ_self _) 0 _
 ·exact oV (vV h2 h0 (by decide) hg') (Nat.lt_succ_self _) 0 _
 ·exact hbl.setCell (p:=⟨B,0,none⟩) (by have:=H.le;show _≤B;omega) _
theorem TpX.Lm{B k l c1 c2:Nat}{w W w3:World}{p1 p2:Option Addr}{y:List Int}{x:Int}{v3:Value}{o:Obj}(H:TpX B w W p1 p2 k l c1 c2)(hy:∀ x∈y,0≤x∧x < 256)(hx:0≤x∧x < 256)
  (h0:W.ownsRow (B+1) 5 1 (.slice p2 l c2) l (y.map (Value.int .u8))) (h3:w3.ownsRow (B+1) 5 1 v3 (l+1) (y.map (Value.int .u8)++[.int .u8 x])) (hg:(W.alloc o).drew.grownBy w3 (Value.slice p2 l c2).ownBlock):
  ∃ q c,v3= .slice q (l+1) c∧Below w.heap.size w w3∧w3.heap[B]? =some (.cells #[.slice p1 k c1,.slice p2 l c2] 43 (0,0))∧TpX B w (w3.setCell ⟨B,1,none⟩ v3) p1 q k (l+1) c1 c:=by
 have hlt:B < W.heap.size:=(Array.getElem?_eq_some_iff.1 H.blk).1;have hg':W.grownBy w3 (Value.slice p2 l c2).ownBlock:=⟨hg.os,hg.tape,hg.output,Nat.le_trans (by show _≤(W.alloc o).heap.size;rw[World.size_alloc];omega) hg.size,fun i hi hne=>(hg.block i (by show _ < (W.alloc o).heap.size;rw[World.size_alloc];omega) hne).trans (aj _ _ _ (Array.getElem?_eq_getElem hi) |>.trans (Array.getElem?_eq_getElem hi).symm)⟩;have hB:=hg'.block B hlt (fun e=>by have:=jL h0 B e.symm;omega);have hR:=hg'.block w.heap.size (by have:=H.le;omega) (fun e=>by have:=jL h0 _ e.symm;have:=H.le;omega);obtain⟨g,cap,hv,hb,hc⟩:=h3.form (by omega);subst hv;obtain⟨y2,hy2,h2⟩:=H.o1;obtain⟨A,hA,hs⟩:=H.res;have hbk:=hB.trans H.blk;have hbl:=H.bel.grown hg' H.bel.size (fun k hk=>by have:=jL h0 k hk;have:=H.le;omega);refine⟨_,_,rfl,hbl,hbk,bP w3 B 1 _ _ _ _ hbk,⟨y2,hy2,?_⟩,⟨y++[x],?_,?_⟩,?_,H.le,⟨A,(dn w3 ⟨B,1,none⟩ _ _ (by have:=H.le;simp;omega)).trans (hR.trans hA),hs⟩⟩
 ·exact oV (vV h2 h0 (by decide) hg') (Nat.lt_succ_self _) 1 _
 ·intro z hz
  rcases List.mem_append.1 hz with h|h
  ·exact hy z h
  ·rw[List.mem_singleton.1 h];exact hx
 ·rw[List.map_append];exact oV h3 (Nat.lt_succ_self _) 1 _
 ·exact hbl.setCell (p:=⟨B,1,none⟩) (by have:=H.le;show _≤B;omega) _
def TyL(w:World)(p:Option Addr)(e:TypeId):Prop:=∀ g,p=some ⟨g,0,none⟩→∃ D,w.heap[g]? =some (.cells D e (0,0))
theorem TpX.fin{B k l c1 c2:Nat}{w W:World}{p1 p2:Option Addr}(H:TpX B w W p1 p2 k l c1 c2)(A:Array Value)(hk:k≤40)(hl:l≤40):∃ T:Tp,T.inn.length=k∧T.irq.length=l∧T.Ok∧Sl (W.setRow w.heap.size A) p1 (inC T.inn)∧Sl (W.setRow w.heap.size A) p2 (irC T.irq)∧TyL (W.setRow w.heap.size A) p1 29∧TyL (W.setRow w.heap.size A) p2 5∧Below w.heap.size w (W.setRow w.heap.size A):=by
 obtain⟨y,hy,ho⟩:=H.o1;obtain⟨z,hz,hq⟩:=H.o2;have e1:y.length=k:=by have:=ho.1;simpa using this
 have e2:z.length=l:=by have:=hq.1;simpa using this
 exact⟨⟨y,z⟩,e1,e2,⟨hy,hz,by show y.length≤_;omega,by show z.length≤_;omega⟩,um (oW ho (by have:=H.le;omega) A),um (oW hq (by have:=H.le;omega) A),gY (oW ho (by have:=H.le;omega) A),gY (oW hq (by have:=H.le;omega) A),below_setRow H.bel (Nat.le_refl _) A⟩
theorem jr:(Tryz.prog.info? 43).map (·.size)=some 2:=by kernel_rfl
theorem GY(x:Int):0≤IntKind.u8.wrap x∧IntKind.u8.wrap x < 256:=by rw[IntKind.wrap_u8];omega
set_option maxHeartbeats 4000000 in
theorem EO(p:Option Addr)(n c:Nat)(w:World)(h:Ri w p n)(hn:n≤9223372036854775807):
  Calls Tryz.prog 32 #[.slice p n c] w fun e w'=>(∃ (T:Tp) (pi pq:Option Addr) (ci cq:Nat),e= .returned (.agg #[.slice pi T.inn.length ci,.slice pq T.irq.length cq])∧T.Ok∧Sl w' pi (inC T.inn)∧Sl w' pq (irC T.irq)∧TyL w' pi 29∧TyL w' pq 5)∧Below w.heap.size w w':=by
 obtain⟨i0,hi,hz0,hz1,hz2⟩:=info_parts vZ;obtain⟨i8,gi,gz0,gz1,gz2⟩:=info_parts qH;have HR:=Nc h;have H0:=Nc (TpX.new w #[.slice none 0 0,.slice none 0 0] rfl);have hn1:(n:Int)≤9223372036854775807:=by omega
 clear h hn;go_enter Tryz.func32,Tryz.ntmps32
 go_upto_region 2 with fail
 obtain⟨W0,hW0⟩:∃ W,(w.alloc (.cells #[.slice none 0 0,.slice none 0 0] 43)).alloc (.cells #[.slice none 0 0,.slice none 0 0] 43)=W:=⟨_,rfl⟩;obtain⟨m,hm⟩:∃ m,w.heap.size=m:=⟨_,rfl⟩;rw[hW0,hm] at H0;rw[hW0,hm];have HN:=Nc hm;clear hW0 hm;go_wp2_with fail
 go_loopw [4] (fun i wr=>∃ (k c1 c2:Nat) (p1 p2:Option Addr),k≤40∧i= .int .i64 k∧Hid (TpX (m+1) w wr p1 p2 k k c1 c2)) (fun i _=>40-(intOf i).toNat)
 case atStart=>exact⟨0,0,0,none,none,Nat.zero_le _,rfl,H0⟩
 case round=>
  obtain⟨k,c1,c2,p1,p2,hk,rfl,HK⟩:=hrel;by_cases h1:k < n
  ·have h1':(k:Int) < (n:Int):=by omega
   have hk0:(0:Int)≤(k:Int):=by omega
   by_cases h2:k < 40
   ·have h2':(k:Int) < 40:=by omega
    obtain⟨g,o,x,hp,hr⟩:=HR.out k h1;subst hp;have HRr:=Nc hr;clear hr;have C0:=Nc (ae HK.out.blk 0 _ rfl);have C1:=Nc (ae (aj _ (.cells #[.int .u16 (IntKind.u16.wrap x)] 29) _ HK.out.blk) 0 _ rfl);have HS:=Nc (show wr.drew.cell? ⟨g,o+k,none⟩=some (.int .i64 x) from HRr.out _ HK.out.bel.drew);have HS2:=Nc (show((wr.alloc (.cells #[.int .u16 (IntKind.u16.wrap x)] 29)).drew).cell? ⟨g,o+k,none⟩=some (.int .i64 x) from HRr.out _ (HK.out.bel.alloc HK.out.bel.size _).drew);go_upto_region 5 with fail
    go_cut [4] from 16 to 25 (fun i wx=>i= .int .i64 k∧∃ q c3,Hid (TpX (m+1) w wx q p2 (k+1) k c3 c2))
    case first=>
     refine wp_region_held_drew (S:=fun w'=>w'.cell? ⟨g,o+k,none⟩=some (.int .i64 x)) (by kernel_rfl) HS.out (fun hHeld=>?_);refine tq 0 rfl ?_;refine tq 2 rfl ?_;refine tq 3 rfl ?_;refine tq 4 rfl ?_;refine tq 5 rfl ?_;refine tq 6 rfl ?_;refine wpAnyH_ready (rs:=[1,7]) (by kernel_rfl) (by simp) (AllReadyH.cons rfl (fun K hK=>?_) (AllReadyH.cons rfl (fun K hK=>?_) AllReadyH.nil))
     ·have c0:wr.cell? ⟨m+1,0,none⟩=_:=C0.out
      go_simp;refine hK.out _ _ HS.out (fun hHeld=>?_);clear hK K c0
      try simp only[lay]
      refine rd1 7 rfl (fun K hK=>?_);go_simp;refine hK.out _ _ HS2.out (fun hHeld=>?_);clear hK K
      try simp only[lay]
      obtain⟨y,hy,ho⟩:=HK.out.o1;refine rd1 8 rfl (fun K hK=>?_);rw[if_pos (by rfl)];refine wp_append_own _ (.tmp 17) (.tmp 23) 37 rfl (m+1+1) 29 i0 (.int .u16 0) 1 2 Tryz.underlying37 hi hz0 hz1 hz2 rfl (by decide) (.slice p1 k c1) k (y.map (Value.int .u16)) rfl ((ho.alloc _).drew) ⟨wr.heap.size,0,none⟩ 1 1 [.int .u16 (IntKind.u16.wrap x)] rfl rfl (bf (heap_alloc_new wr (.cells #[.int .u16 (IntKind.u16.wrap x)] 29))) (by simp[Value.oneCell']) (by have:=hk;simp only[maxLen];omega) (by omega) (by have:=(Array.getElem?_eq_some_iff.1 HK.out.blk).1;show _≤(wr.alloc _).heap.size;rw[World.size_alloc];omega) ?_;intro v3 w3 hown hg _;obtain⟨q,c3,rfl,hbl,hb3,H3⟩:=HK.out.app1 hy (fM x) ho hown hg;have HB3:=Nc (HRr.out _ hbl);have HB4:=Nc (HRr.out _ H3.bel);have HH:=Nc H3;have HC3:=Nc hb3;clear hown hg hbl hb3 H3 ho hy;refine hK.out _ _ HB3.out (fun hHeld=>?_);clear hK K
      try simp only[lay]
      refine tq 9 rfl ?_;have c2:=ae HC3.out 0 _ rfl;have f2:=frozen_of_row w3 (m+1) 0 _ _ HC3.out;refine rd1 10 rfl (fun K hK=>?_);go_simp;refine hK.out _ _ HB4.out (fun hHeld=>?_);clear hK K
      try simp only[lay]
      refine wpAnyH_done (by kernel_rfl) ?_ _;go_wp2_with fail
      go_meet
      exact⟨rfl,q,c3,HH⟩
     ·go_simp
      refine hK.out _ _ HS2.out (fun hHeld=>?_);clear hK K
      try simp only[lay]
      have c0:(wr.alloc (.cells #[.int .u16 (IntKind.u16.wrap x)] 29)).cell? ⟨m+1,0,none⟩=_:=C1.out;refine rd1 1 rfl (fun K hK=>?_);go_simp;refine hK.out _ _ HS2.out (fun hHeld=>?_);clear hK K c0
      try simp only[lay]
      obtain⟨y,hy,ho⟩:=HK.out.o1;refine rd1 8 rfl (fun K hK=>?_);rw[if_pos (by rfl)];refine wp_append_own _ (.tmp 17) (.tmp 23) 37 rfl (m+1+1) 29 i0 (.int .u16 0) 1 2 Tryz.underlying37 hi hz0 hz1 hz2 rfl (by decide) (.slice p1 k c1) k (y.map (Value.int .u16)) rfl ((ho.alloc _).drew) ⟨wr.heap.size,0,none⟩ 1 1 [.int .u16 (IntKind.u16.wrap x)] rfl rfl (bf (heap_alloc_new wr (.cells #[.int .u16 (IntKind.u16.wrap x)] 29))) (by simp[Value.oneCell']) (by have:=hk;simp only[maxLen];omega) (by omega) (by have:=(Array.getElem?_eq_some_iff.1 HK.out.blk).1;show _≤(wr.alloc _).heap.size;rw[World.size_alloc];omega) ?_;intro v3 w3 hown hg _;obtain⟨q,c3,rfl,hbl,hb3,H3⟩:=HK.out.app1 hy (fM x) ho hown hg;have HB3:=Nc (HRr.out _ hbl);have HB4:=Nc (HRr.out _ H3.bel);have HH:=Nc H3;have HC3:=Nc hb3;clear hown hg hbl hb3 H3 ho hy;refine hK.out _ _ HB3.out (fun hHeld=>?_);clear hK K
      try simp only[lay]
      refine tq 9 rfl ?_;have c2:=ae HC3.out 0 _ rfl;have f2:=frozen_of_row w3 (m+1) 0 _ _ HC3.out;refine rd1 10 rfl (fun K hK=>?_);go_simp;refine hK.out _ _ HB4.out (fun hHeld=>?_);clear hK K
      try simp only[lay]
      refine wpAnyH_done (by kernel_rfl) ?_ _;go_wp2_with fail
      go_meet
      exact⟨rfl,q,c3,HH⟩
    case rest=>
    obtain⟨rfl,q0,d0,hq⟩:=hcut;obtain⟨wr,hwr⟩:∃ W,wc=W:=⟨_,rfl⟩;subst hwr;clear HK C0 C1 HS HS2;have HK:=hq;clear hq;have C0:=Nc (ae HK.out.blk 1 _ rfl);have C1:=Nc (ae (aj _ (.cells #[.int .u8 (IntKind.u8.wrap (bits BinOp.and IntKind.i64 (x/8) 1))] 5) _ HK.out.blk) 1 _ rfl);have HS:=Nc (show wc.drew.cell? ⟨g,o+k,none⟩=some (.int .i64 x) from HRr.out _ HK.out.bel.drew);have HS2:=Nc (show((wc.alloc (.cells #[.int .u8 (IntKind.u8.wrap (bits BinOp.and IntKind.i64 (x/8) 1))] 5)).drew).cell? ⟨g,o+k,none⟩=some (.int .i64 x) from HRr.out _ (HK.out.bel.alloc HK.out.bel.size _).drew);go_upto_region 6 with fail
    refine wp_region_held_drew (S:=fun w'=>w'.cell? ⟨g,o+k,none⟩=some (.int .i64 x)) (by kernel_rfl) HS.out (fun hHeld=>?_);refine tq 0 rfl ?_;refine tq 2 rfl ?_;refine tq 3 rfl ?_;refine tq 4 rfl ?_;refine tq 5 rfl ?_;refine tq 6 rfl ?_;refine tq 7 rfl ?_;refine tq 8 rfl ?_;refine wpAnyH_ready (rs:=[1,9]) (by kernel_rfl) (by simp) (AllReadyH.cons rfl (fun K hK=>?_) (AllReadyH.cons rfl (fun K hK=>?_) AllReadyH.nil))
    ·have c0:wc.cell? ⟨m+1,1,none⟩=_:=C0.out
     go_simp;refine hK.out _ _ HS.out (fun hHeld=>?_);clear hK K c0
     try simp only[lay]
     refine rd1 9 rfl (fun K hK=>?_);go_simp;refine hK.out _ _ HS2.out (fun hHeld=>?_);clear hK K
     try simp only[lay]
     obtain⟨y,hy,ho⟩:=HK.out.o2;refine rd1 10 rfl (fun K hK=>?_);rw[if_pos (by rfl)];refine wp_append_own _ (.tmp 27) (.tmp 35) 41 rfl (m+1+1) 5 i8 (.int .u8 0) 1 1 Tryz.underlying41 gi gz0 gz1 gz2 rfl (by decide) (.slice p2 k c2) k (y.map (Value.int .u8)) rfl ((ho.alloc _).drew) ⟨wc.heap.size,0,none⟩ 1 1 [.int .u8 (IntKind.u8.wrap (bits BinOp.and IntKind.i64 (x/8) 1))] rfl rfl (bf (heap_alloc_new wc (.cells #[.int .u8 (IntKind.u8.wrap (bits BinOp.and IntKind.i64 (x/8) 1))] 5))) (by simp[Value.oneCell']) (by have:=hk;simp only[maxLen];omega) (by omega) (by have:=(Array.getElem?_eq_some_iff.1 HK.out.blk).1;show _≤(wc.alloc _).heap.size;rw[World.size_alloc];omega) ?_;intro v3 w3 hown hg _;obtain⟨q,c3,rfl,hbl,hb3,H3⟩:=HK.out.Lm hy (GY _) ho hown hg;have HB3:=Nc (HRr.out _ hbl);have HB4:=Nc (HRr.out _ H3.bel);have HH:=Nc H3;have HC3:=Nc hb3;clear hown hg hbl hb3 H3 ho hy;refine hK.out _ _ HB3.out (fun hHeld=>?_);clear hK K
     try simp only[lay]
     refine tq 11 rfl ?_;have c2:=ae HC3.out 1 _ rfl;have f2:=frozen_of_row w3 (m+1) 1 _ _ HC3.out;refine rd1 12 rfl (fun K hK=>?_);go_simp;refine hK.out _ _ HB4.out (fun hHeld=>?_);clear hK K
     try simp only[lay]
     refine wpAnyH_done (by kernel_rfl) ?_ _;go_wp2_with fail
     go_roundw
     case rel=>exact⟨k+1,d0,c3,q0,q,by omega,by go_num,HH⟩
     case measure=>simp[intOf];omega
    ·go_simp
     refine hK.out _ _ HS2.out (fun hHeld=>?_);clear hK K
     try simp only[lay]
     have c0:(wc.alloc (.cells #[.int .u8 (IntKind.u8.wrap (bits BinOp.and IntKind.i64 (x/8) 1))] 5)).cell? ⟨m+1,1,none⟩=_:=C1.out;refine rd1 1 rfl (fun K hK=>?_);go_simp;refine hK.out _ _ HS2.out (fun hHeld=>?_);clear hK K c0
     try simp only[lay]
     obtain⟨y,hy,ho⟩:=HK.out.o2;refine rd1 10 rfl (fun K hK=>?_);rw[if_pos (by rfl)];refine wp_append_own _ (.tmp 27) (.tmp 35) 41 rfl (m+1+1) 5 i8 (.int .u8 0) 1 1 Tryz.underlying41 gi gz0 gz1 gz2 rfl (by decide) (.slice p2 k c2) k (y.map (Value.int .u8)) rfl ((ho.alloc _).drew) ⟨wc.heap.size,0,none⟩ 1 1 [.int .u8 (IntKind.u8.wrap (bits BinOp.and IntKind.i64 (x/8) 1))] rfl rfl (bf (heap_alloc_new wc (.cells #[.int .u8 (IntKind.u8.wrap (bits BinOp.and IntKind.i64 (x/8) 1))] 5))) (by simp[Value.oneCell']) (by have:=hk;simp only[maxLen];omega) (by omega) (by have:=(Array.getElem?_eq_some_iff.1 HK.out.blk).1;show _≤(wc.alloc _).heap.size;rw[World.size_alloc];omega) ?_;intro v3 w3 hown hg _;obtain⟨q,c3,rfl,hbl,hb3,H3⟩:=HK.out.Lm hy (GY _) ho hown hg;have HB3:=Nc (HRr.out _ hbl);have HB4:=Nc (HRr.out _ H3.bel);have HH:=Nc H3;have HC3:=Nc hb3;clear hown hg hbl hb3 H3 ho hy;refine hK.out _ _ HB3.out (fun hHeld=>?_);clear hK K
     try simp only[lay]
     refine tq 11 rfl ?_;have c2:=ae HC3.out 1 _ rfl;have f2:=frozen_of_row w3 (m+1) 1 _ _ HC3.out;refine rd1 12 rfl (fun K hK=>?_);go_simp;refine hK.out _ _ HB4.out (fun hHeld=>?_);clear hK K
     try simp only[lay]
     refine wpAnyH_done (by kernel_rfl) ?_ _;go_wp2_with fail
     go_roundw
     case rel=>exact⟨k+1,d0,c3,q0,q,by omega,by go_num,HH⟩
     case measure=>simp[intOf];omega
   ·have h2':¬ (k:Int) < 40:=by omega
    obtain⟨A,hA,hAs⟩:=HK.out.res;have HA:=Nc hA;have HF:=Nc (HK.out.fin #[.slice p1 k c1,.slice p2 k c2] hk hk);have HB:=Nc (setRow_heap wr w.heap.size _ #[.slice p1 k c1,.slice p2 k c2] 43 (0,0) hA);have HRg:=Nc (show wr.rangeAt (m+1) 0 [.slice p1 k c1,.slice p2 k c2] from fun j v hv=>by rw[Nat.zero_add];exact ae HK.out.blk j _ (by rw[← hv];simp));rw[HN.out] at HA HF HB;clear hA;go_wp2_with (first
     | refine wpList_load_mid rfl 43 _ rfl (m+1) 0 rfl [.slice p1 k c1,.slice p2 k c2] _ HRg.out Tryz.underlying43 rfl jr ?_
     | refine wpList_store_row rfl 43 _ _ rfl m #[.slice p1 k c1,.slice p2 k c2] rfl rfl 43 _ HA.out jr (by rw[hAs];rfl) (by simp[Value.oneCell']) ?_)
    refine bodyPost_ret (v:= .agg #[.slice p1 k c1,.slice p2 k c2]) (results_cell_row rfl _ _ m 43 _ (0,0) _ rfl HB.out Tryz.underlying43 rfl jr) rfl ?_;obtain⟨T,t1,t2,t3,t4,t5,t6,t7,t8⟩:=HF.out;exact⟨⟨T,p1,p2,⟨c1,c2,by rw[t1,t2]⟩,t3,t4,t5,t6,t7⟩,by rw[HN.out];exact t8⟩
  ·have h1':¬ (k:Int) < (n:Int):=by omega
   obtain⟨A,hA,hAs⟩:=HK.out.res;have HA:=Nc hA;have HF:=Nc (HK.out.fin #[.slice p1 k c1,.slice p2 k c2] hk hk);have HB:=Nc (setRow_heap wr w.heap.size _ #[.slice p1 k c1,.slice p2 k c2] 43 (0,0) hA);have HRg:=Nc (show wr.rangeAt (m+1) 0 [.slice p1 k c1,.slice p2 k c2] from fun j v hv=>by rw[Nat.zero_add];exact ae HK.out.blk j _ (by rw[← hv];simp));rw[HN.out] at HA HF HB;clear hA;go_wp2_with (first
    | refine wpList_load_mid rfl 43 _ rfl (m+1) 0 rfl [.slice p1 k c1,.slice p2 k c2] _ HRg.out Tryz.underlying43 rfl jr ?_
    | refine wpList_store_row rfl 43 _ _ rfl m #[.slice p1 k c1,.slice p2 k c2] rfl rfl 43 _ HA.out jr (by rw[hAs];rfl) (by simp[Value.oneCell']) ?_)
   refine bodyPost_ret (v:= .agg #[.slice p1 k c1,.slice p2 k c2]) (results_cell_row rfl _ _ m 43 _ (0,0) _ rfl HB.out Tryz.underlying43 rfl jr) rfl ?_;obtain⟨T,t1,t2,t3,t4,t5,t6,t7,t8⟩:=HF.out;exact⟨⟨T,p1,p2,⟨c1,c2,by rw[t1,t2]⟩,t3,t4,t5,t6,t7⟩,by rw[HN.out];exact t8⟩
end Go.Proofs.YthkcloapiefggaaGreatDoor
