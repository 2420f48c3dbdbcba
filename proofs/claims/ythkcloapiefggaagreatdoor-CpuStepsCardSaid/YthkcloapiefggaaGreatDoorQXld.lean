import Derived.Test.YthkcloapiefggaaGreatDoorQXsm
import Derived.Test.YthkcloapiefggaaGreatDoorQEncW
import Derived.Test.YthkcloapiefggaaGreatDoorQEvx
import Derived.Test.YthkcloapiefggaaGreatDoorQXma
namespace Go.Proofs.YthkcloapiefggaaGreatDoor
set_option linter.unusedVariables false
set_option linter.unusedSimpArgs false
set_option maxRecDepth 100000
set_option maxHeartbeats 1000000
open Go.ChangeShapes Go.WideShapes Go.RowKit
theorem fM(x:Int):0≤IntKind.u16.wrap x∧IntKind.u16.wrap x < 65536:=by rw[IntKind.wrap_u16];omega
theorem jL{w:World}{base:Nat}{e:TypeId}{size n:Nat}{v:Value}{xs:List Value}(h:w.ownsRow base e size v n xs)(k:Nat)(hk:v.ownBlock=some k):base≤k:=by
 rcases h.2 with⟨h0,_⟩|⟨g,cap,cur,hv,hb,_⟩
 ·subst h0;simp[Value.ownBlock] at hk
 ·subst hv;have:g=k:=by simpa [Value.ownBlock] using hk
  omega
theorem oW{w:World}{base:Nat}{e:TypeId}{size n:Nat}{v:Value}{xs:List Value}(h:w.ownsRow base e size v n xs){B:Nat}(hB:B < base)(A:Array Value):(w.setRow B A).ownsRow base e size v n xs:=by
 refine⟨h.1,?_⟩;rcases h.2 with h0|⟨g,cap,cur,hv,hb,hc,r⟩
 ·exact .inl h0
 ·exact .inr ⟨g,cap,cur,hv,hb,(setRow_other w B g A (by omega)).trans hc,r⟩
theorem um{w:World}{base:Nat}{e:TypeId}{n c:Nat}{p:Option Addr}{xs:List Value}(h:w.ownsRow base e 1 (.slice p n c) n xs):Sl w p xs:=by
 intro j x hx;have hj:j < xs.length:=(List.getElem?_eq_some_iff.1 hx).1;have hl:=h.1;rcases h.2 with⟨_,h0⟩|⟨g,cap,cur,hv,_⟩
 ·omega
 ·simp only[Value.slice.injEq] at hv
  obtain⟨rfl,_,rfl⟩:=hv;exact⟨g,rfl,(h.cellAt j (by omega)).trans hx⟩
structure LdT(W1:World)(g:Nat)(X:Sn)(p:Option Addr)(c:Nat)(V:World):Prop where
 bel:Below W1.heap.size W1 V
 lo:W1.heap.size≤g
 ok:X.Ok
 out:X.out=[]
 ram:X.ram.size=8192
 box:V.heap[g]? =some (.cells (snA X p c none 0) 40 (0,0))
 own:V.ownsRow W1.heap.size 29 1 (.slice p X.stk.length c) X.stk.length (inC X.stk)
theorem qm{w:World}{base:Nat}{e t:TypeId}{size n:Nat}{v:Value}{xs:List Value}(h:w.ownsRow base e size v n xs){B:Nat}{A:Array Value}{f:Nat × Nat}(hB:w.heap[B]? =some (.cells A t f))(ne:e≠t)(C:Array Value):(w.setRow B C).ownsRow base e size v n xs:=by
 refine⟨h.1,?_⟩;rcases h.2 with h0|⟨g,cap,cur,hv,hb,hc,r⟩
 ·exact .inl h0
 ·refine .inr ⟨g,cap,cur,hv,hb,(setRow_other w B g C ?_).trans hc,r⟩
  intro e;rw[e,hB] at hc;injection hc with hc;injection hc with _ hc;exact ne hc.symm
theorem LdT.set{W1:World}{g:Nat}{X X':Sn}{p:Option Addr}{c:Nat}{V:World}(h:LdT W1 g X p c V)(j:Nat)(v:Value)(h1:(snA X p c none 0).setIfInBounds j v=snA X' p c none 0)(h2:X'.stk=X.stk)(h3:X'.out=X.out)(h4:X'.Ok)(h5:X'.ram.size=8192):LdT W1 g X' p c (V.setCell ⟨g,j,none⟩ v):=by
 have e:=setCell_eq_setRow V g j _ _ _ v h.box;rw[e,h1];exact⟨below_setRow h.bel h.lo _,h.lo,h4,h3.trans h.out,h5,setRow_heap _ _ _ _ _ _ h.box,by rw[h2];exact qm h.own h.box (by decide) _⟩
theorem LdT.at{W1:World}{g:Nat}{X:Sn}{p:Option Addr}{c:Nat}{V:World}(h:LdT W1 g X p c V)(j:Nat)(v:Value)(hv:(snA X p c none 0)[j]? =some v):V.cell? ⟨g,j,none⟩=some v:=ae h.box j v hv
theorem LdT.frz{W1:World}{g:Nat}{X:Sn}{p:Option Addr}{c:Nat}{V:World}(h:LdT W1 g X p c V)(j:Nat):V.frozen? ⟨g,j,none⟩=false:=frozen_of_row V g j _ _ h.box
theorem LdT.reg{W1:World}{g:Nat}{X:Sn}{p:Option Addr}{c:Nat}{V:World}(h:LdT W1 g X p c V)(k:Nat)(hk:k < 8)(y:Int)(hy:U16 y):LdT W1 g {X with r:=upd X.r k y} p c (V.setCell ⟨g,k,none⟩ (.int .u16 y)):=
 h.set k _ (by rcases(show k=0∨k=1∨k=2∨k=3∨k=4∨k=5∨k=6∨k=7 by omega) with rfl | rfl | rfl | rfl | rfl | rfl | rfl | rfl<;>rfl) rfl rfl {h.ok with r:=jD (Q:=U16) h.ok.r hy} h.ram
theorem LdT.cF{W1:World}{g:Nat}{X:Sn}{p:Option Addr}{c:Nat}{V:World}(h:LdT W1 g X p c V)(y:Int)(hy:U16 y):LdT W1 g {X with f:=y} p c (V.setCell ⟨g,11,none⟩ (.int .u16 y)):=
 h.set 11 _ rfl rfl rfl {h.ok with f:=hy} h.ram
theorem LdT.cB{W1:World}{g:Nat}{X:Sn}{p:Option Addr}{c:Nat}{V:World}(h:LdT W1 g X p c V)(y:Int)(hy:I64 y):LdT W1 g {X with aF:=y} p c (V.setCell ⟨g,12,none⟩ (.int .i64 y)):=
 h.set 12 _ rfl rfl rfl {h.ok with aF:=hy} h.ram
theorem LdT.cSP{W1:World}{g:Nat}{X:Sn}{p:Option Addr}{c:Nat}{V:World}(h:LdT W1 g X p c V)(y:Int):LdT W1 g {X with sp:=y} p c (V.setCell ⟨g,9,none⟩ (.int .u16 y)):=
 h.set 9 _ rfl rfl rfl {h.ok with} h.ram
theorem LdT.mY{W1:World}{g:Nat}{X:Sn}{p:Option Addr}{c:Nat}{V:World}(h:LdT W1 g X p c V)(y:ByteArray)(hy:y.size=8192):LdT W1 g {X with ram:=y} p c (V.setCell ⟨g,16,none⟩ (.string y)):=
 h.set 16 _ rfl rfl rfl {h.ok with} hy
theorem LdT.next{W1:World}{g:Nat}{X:Sn}{p:Option Addr}{c:Nat}{V U:World}(h:LdT W1 g X p c V)(hb:Below V.heap.size V U):LdT W1 g X p c U:=by
 refine⟨h.bel.trans (hb.mono h.bel.size),h.lo,h.ok,h.out,h.ram,af h.box hb,h.own.1,?_⟩;rcases h.own.2 with h0|⟨g,cap,cur,hv,hb',hc,r⟩
 ·exact .inl h0
 ·exact .inr ⟨g,cap,cur,hv,hb',af hc hb,r⟩
theorem wR:zeros.size=8192:=by
 show((List.range 8192).map _).toArray.size=8192
 simp
theorem LdT.new{W1 W2:World}{I:Im}{gs:Nat}(hb:Below W1.heap.size W1 W2)(h1:W1.heap.size≤gs)(h2:W2.heap[gs]? =some (.cells #[.int .u16 0,.int .u16 65535] 29 (0,0)))(hX:(pX I).Ok)(Z:Array Value):
  LdT W1 W2.heap.size (pX I) (some ⟨gs,0,none⟩) 2 ((W2.alloc (.cells Z 40)).setRow W2.heap.size (snA (pX I) (some ⟨gs,0,none⟩) 2 none 0)):=
 ⟨below_setRow (hb.alloc hb.size _) hb.size _,hb.size,hX,rfl,wR,setRow_heap _ _ _ _ _ _ (heap_alloc_new W2 _),qm (t:=40) ⟨rfl,.inr ⟨gs,2,_,rfl,h1,aj _ _ _ h2,Nat.le_refl _,by decide,rfl,rfl⟩⟩ (heap_alloc_new W2 _) (by decide) _⟩
theorem LdT.app{W1 W w3:World}{g:Nat}{X:Sn}{p:Option Addr}{c:Nat}{x:Int}{v3:Value}{o:Obj}(H:LdT W1 g X p c W)(hx:U16 x)
  (h3:w3.ownsRow W1.heap.size 29 1 v3 (X.stk.length+1) (inC X.stk++[.int .u16 x])) (hg:(W.alloc o).grownBy w3 (Value.slice p X.stk.length c).ownBlock):
  ∃ q d,v3= .slice q (X.stk.length+1) d∧w3.heap[g]? =some (.cells (snA X p c none 0) 40 (0,0))∧LdT W1 g {X with stk:=X.stk++[x]} q d (w3.setCell ⟨g,17,none⟩ v3):=by
 obtain⟨gg,cap,hv,hb',hc⟩:=h3.form (by omega);subst hv;have hne:some g≠(Value.slice p X.stk.length c).ownBlock:=fun e=>by
  rcases H.own.2 with⟨h0,_⟩|⟨g',cap,cur,hv,hb,hc,_⟩
  ·rw[h0] at e;simp[Value.ownBlock] at e
  ·rw[hv] at e
   have:g=g':=by simpa [Value.ownBlock] using e
   subst this;rw[H.box] at hc;injection hc with hc;injection hc with _ hc;exact absurd hc (by decide)
 have hbx:=(hg.block g (Nat.lt_of_lt_of_le (lt_of_block H.box) (by rw[World.size_alloc];omega)) hne).trans (aj _ o _ H.box);have hbl:Below W1.heap.size W1 w3:=(H.bel.alloc H.bel.size o).grown hg (by rw[World.size_alloc];have:=H.bel.size;omega) (fun k hk=>jL H.own k hk);refine⟨_,_,rfl,hbx,?_⟩;have e:=setCell_eq_setRow w3 g 17 _ _ _ (.slice (some ⟨gg,0,none⟩) (X.stk.length+1) cap) hbx;rw[e];refine⟨below_setRow hbl H.lo _,H.lo,{H.ok with stk:=?_},H.out,H.ram,?_,?_⟩
 ·intro y hy
  rcases List.mem_append.1 hy with h|h
  ·exact H.ok.stk y h
  ·rw[List.mem_singleton.1 h];exact hx
 ·have:=setRow_heap _ _ _ ((snA X p c none 0).setIfInBounds 17 (.slice (some ⟨gg,0,none⟩) (X.stk.length+1) cap)) _ _ hbx
  rw[this];simp[snA]
 ·have:=qm h3 hbx (by decide) ((snA X p c none 0).setIfInBounds 17 (.slice (some ⟨gg,0,none⟩) (X.stk.length+1) cap))
  have e1:(X.stk++[x]).length=X.stk.length+1:=by simp
  have e2:inC (X.stk++[x])=inC X.stk++[.int .u16 x]:=by simp[inC]
  show World.ownsRow _ _ _ _ (Value.slice _ (X.stk++[x]).length _) (X.stk++[x]).length (inC (X.stk++[x]));rw[e1,e2];exact this
theorem IP{I:Im}(h:I.en=0):(pX I).Ok:=
 ⟨fun _ _=>pG,(by show U16 I.en;rw[h];exact pG),pG,pG,oI,oI,oI,oI,by intro x hx;simp[pX] at hx;rcases hx with rfl | rfl<;>exact⟨by decide,by decide⟩,by intro e he;simp[pX] at he⟩
theorem LdT.snH{W1:World}{g:Nat}{X:Sn}{p:Option Addr}{c:Nat}{V:World}(h:LdT W1 g X p c V):SnH V X p none:=
 ⟨um h.own,by rw[h.out];exact Sl.nil _ _,gY h.own,fun g hg=>by cases hg⟩

structure FlB(B n:Nat)(w wr:World):Prop where
 blk:∃ A,wr.heap[B]? =some (.cells A 5 (0,0))∧A.size=n∧∀ j,j < n→∃ x,A[j]? =some (.int .u8 x)
 bel:Below B w wr
theorem FlB.put{B n:Nat}{w wr:World}(h:FlB B n w wr)(j:Nat)(x:Int):FlB B n w (wr.setCell ⟨B,j,none⟩ (.int .u8 x)):=by
 obtain⟨A,a1,a2,a3⟩:=h.blk;refine⟨⟨_,bP wr B j _ _ _ _ a1,by simpa using a2,fun l hl=>?_⟩,h.bel.setCell (p:=⟨B,j,none⟩) (Nat.le_refl _) _⟩;rw[Array.getElem?_setIfInBounds];by_cases e:j=l
 ·subst e;rw[if_pos rfl,if_pos (by omega)];exact⟨_,rfl⟩
 ·rw[if_neg e];exact a3 l hl
theorem DK{n:Nat}{w w1:World}(hown:w1.ownsRow w.heap.size 5 1 (.slice (some ⟨w.heap.size,0,none⟩) n n) n (madeCells (Value.int IntKind.u8 0).cells (n*1)).toList)(hb:Below w.heap.size w w1):FlB w.heap.size n w w1:=
 ⟨⟨_,uN hown,by simp,fun j hj=>⟨0,by simp[hj]⟩⟩,hb⟩
theorem FlB.conv{B n:Nat}{w wr:World}(h:FlB B n w wr):∃ b:ByteArray,b.size=n∧(convert 41 9 (.slice (some ⟨B,0,none⟩) n n)).run Tryz.prog wr= .ok (.string b) wr:=by
 obtain⟨A,a1,a2,a3⟩:=h.blk;refine⟨u8L (fun j=>intOf (A[j]?.getD (.bool false))) n,by show((List.range n).map _).toArray.size=n;simp,?_⟩;refine jy (fun j v hv=>?_) n;have hj:j < n:=by have:=(List.getElem?_eq_some_iff.1 hv).1;simpa using this
 obtain⟨x,hx⟩:=a3 j hj;rw[Nat.zero_add];refine ae a1 j v ?_;rw[← hv,hx];simp[hj,hx,intOf]
set_option maxHeartbeats 2000000 in
theorem y5(s:Int)(n:Nat)(w:World)(hn:n≤10000):
  Calls Tryz.prog 23 #[.int .u32 s,.int .i64 (n:Int)] w fun e w'=>(∃ b:ByteArray,e= .returned (.string b)∧b.size=n)∧Below w.heap.size w w':=by
 obtain⟨i0,hi,hz0,hz1,hz2⟩:=info_parts qH;have hn1:(n:Int)≤10000:=by omega
 go_enter Tryz.func23,Tryz.ntmps23
 go_wp2_with (refine wpList_make_full _ rfl _ _ 41 rfl w.heap.size 5 i0 (.int .u8 0) 1 Tryz.underlying41 hi hz0 hz1 .i64 .i64 (n:Int) (n:Int) n rfl rfl rfl rfl (by rw[hz2];omega) (by simp only[maxLen];omega) (Nat.le_refl _) ?_;intro w1 hown hgr)
 have HG:=Nc (below_of_grown hgr);have H0:=Nc (DK hown (below_of_grown hgr));obtain⟨B,hB⟩:∃ B,w.heap.size=B:=⟨_,rfl⟩;rw[hB] at H0 HG⊢;have HB:=Nc hB;clear hown hgr hi hz0 hz1 hz2 hB;go_loopw [0,6] (fun vs i wr=>∃ (k:Nat) (t:Int),k≤n∧vs= .int .u32 t∧i= .int .i64 k∧Hid (FlB B n w wr)) (fun _ i _=>n-(intOf i).toNat)
 case atStart=>exact⟨0,s,Nat.zero_le _,rfl,rfl,H0⟩
 case round=>
  obtain⟨k,t,hk,rfl,rfl,HK⟩:=hrel;by_cases h1:k < n
  ·have h1':(k:Int) < (n:Int):=by omega
   have hk0:(0:Int)≤(k:Int):=by omega
   obtain⟨A,a1,a2,a3⟩:=HK.out.blk;obtain⟨x,hx⟩:=a3 k h1;have c1:=ae a1 k _ hx;have f1:=frozen_of_row wr B k _ _ a1;have HP:=Nc (fun y=>HK.out.put k y);clear a1 a3 a2 hx;go_wp2_with fail
   go_roundw
   case rel=>exact⟨k+1,_,h1,rfl,by go_num,Nc (HP.out _)⟩
   case measure=>simp[intOf];omega
  ·obtain rfl:n=k:=by omega
   obtain⟨b,hbs,hcv⟩:=HK.out.conv;have HBs:=Nc hbs;clear hbs;go_wp2_with fail
   go_ret
   exact⟨⟨b,rfl,HBs.out⟩,HB.out▸HK.out.bel⟩
end Go.Proofs.YthkcloapiefggaaGreatDoor
