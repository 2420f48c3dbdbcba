import Derived.Deep.DeepCutAuto
import Derived.Deep.RegionHeld3
import Derived.Test.YthkcloapiefggaaGreatDoorQAgr
import Derived.Test.YthkcloapiefggaaGreatDoorQVag
namespace Go.Proofs.YthkcloapiefggaaGreatDoor
set_option linter.unusedVariables false
set_option linter.unusedSimpArgs false
set_option maxRecDepth 100000
open Go.ChangeShapes Go.WideShapes Go.RowKit
theorem GK(W:World)(b o c:Nat)(l:List Int)(h:∀ j n,l[j]? =some n→W.cell? ⟨b,o+j,none⟩=some (.int .u8 n)):
  (convert 41 9 (.slice (some ⟨b,o,none⟩) l.length c)).run Tryz.prog W= .ok (.string (bD l)) W:=by
 rw[run_convert_bytes_string _ 41 9 5 _ _ _ Tryz.underlying41 Tryz.underlying5 Tryz.underlying9];have hl:(aK l).length=l.length:=by simp[aK]
 rw[run_bytesToString _ _ _ _ l (by
  rw[← hl];refine run_loadCells_list _ _ (aK l) fun j v hj=>?_
  simp only[aK,List.getElem?_map,Option.map_eq_some_iff] at hj;obtain⟨n,hn,rfl⟩:=hj;have hh:=h j n hn;by_cases h0:j=0
  ·subst h0;simpa [Addr.add] using hh
  ·simpa [Addr.add,h0] using hh)]
 rfl
theorem dJ{w1:World}{base n:Nat}{L:List Int}{v':Value}(hown:w1.ownsRow base 5 1 v' n (aK L))(hn:L.length=n)(h0:0 < n):
  ∃ g cap,v'= .slice (some ⟨g,0,none⟩) n cap∧(convert 41 9 (.slice (some ⟨g,0,none⟩) n cap)).run Tryz.prog w1= .ok (.string (bD L)) w1:=by
 obtain⟨g,cap,rfl⟩:∃ g cap,v'= .slice (some ⟨g,0,none⟩) n cap:=by
  rcases hown.2 with⟨_,h⟩|⟨g,cap,cur,h,_⟩
  ·omega
  ·exact⟨g,cap,h⟩
 refine⟨g,cap,rfl,?_⟩;subst hn;refine GK w1 g 0 cap L ?_;intro j x h;rw[Nat.zero_add,hown.cellAt j (by have:=(List.getElem?_eq_some_iff.1 h).1;omega)];unfold aK;rw[List.getElem?_map,h];rfl
theorem bf{W:World}{g:Nat}{cs:Array Value}{t:TypeId}{fr:Nat × Nat}(h:W.heap[g]? =some (.cells cs t fr)):∀ j u,cs.toList[j]? =some u→W.cell? ((⟨g,0,none⟩:Addr).add j)=some u:=by
 intro j u hu;have:W.cell? ((⟨g,0,none⟩:Addr).add j)=cs[j]? :=by
  unfold World.cell? Addr.add;by_cases hj:j=0
  ·subst hj;simp[h]
  ·simp[hj,h]
 rw[this];simpa using hu
theorem dL(l:List Int):∀ u∈aK l,u.oneCell'=true:=by
 intro u hu;unfold aK at hu;obtain⟨n,_,rfl⟩:=List.mem_map.1 hu;rfl
structure Ew(B G:Nat)(i:Ins)(w W:World):Prop where
 hi:W.heap[B]? =some (.cells (gJ i) 58 (0,0))
 own:W.ownsRow (B+1) 5 1 (.slice (some ⟨G,0,none⟩) 1 1) 1 (aK [i.op])
 him:W.heap[G+1]? =some (.cells #[.int .u8 (i.im%256),.int .u8 (i.im/256)] 5 (0,0))
 hax:W.heap[G+1+1]? =some (.cells #[.int .u8 (i.ax%256),.int .u8 (i.ax/256)] 5 (0,0))
 hb:Below B w W
 hB:B < G
 hs:W.heap.size=G+1+1+1
theorem Jf{w w2:World}{i:Ins}(hi:w2.heap[w.heap.size]? =some (.cells (gJ i) 58 (0,0)))(hb:Below w.heap.size w w2)(hB:w.heap.size < w2.heap.size):
  Ew w.heap.size w2.heap.size i w (((w2.alloc (.cells #[.int .u8 i.op] 5)).alloc (.cells #[.int .u8 (i.im%256),.int .u8 (i.im/256)] 5)).alloc (.cells #[.int .u8 (i.ax%256),.int .u8 (i.ax/256)] 5)):=by
 have h1:=heap_alloc_new (w2.alloc (.cells #[.int .u8 i.op] 5)) (.cells #[.int .u8 (i.im%256),.int .u8 (i.im/256)] 5);have h2:=heap_alloc_new ((w2.alloc (.cells #[.int .u8 i.op] 5)).alloc (.cells #[.int .u8 (i.im%256),.int .u8 (i.im/256)] 5)) (.cells #[.int .u8 (i.ax%256),.int .u8 (i.ax/256)] 5);simp only[World.size_alloc] at h1 h2;have ho:=World.ownsRow_lit (base:=w.heap.size+1) (e:=5) (size:=1) w2 #[.int .u8 i.op] 1 (by omega) (by decide) rfl;exact⟨aj _ _ _ (aj _ _ _ (aj _ _ _ hi)),(ho.alloc _).alloc _,aj _ _ _ h1,h2,((hb.alloc (by omega) _).alloc (by simp;omega) _).alloc (by simp;omega) _,hB,by simp⟩
theorem dM{B G:Nat}{i:Ins}{w W w1:World}{o:Obj}(h:Ew B G i w W)(hg:(W.alloc o).grownBy w1 (some G)):Below B w w1:=
 (h.hb.alloc (by have:=h.hB;have:=h.hs;omega) o).grown hg (by have:=h.hB;have:=h.hs;simp;omega) (fun k hk=>by have:=h.hB;simp only[Option.some.injEq] at hk;omega)
theorem DW{B G:Nat}{i:Ins}{w W:World}(h:Ew B G i w W):
  (W.cell? ⟨B,2,none⟩=some (.int .i64 i.s)∧W.cell? ⟨B,5,none⟩=some (.int .i64 i.bk))∧(W.cell? ⟨G+1,0,none⟩=some (.int .u8 (i.im%256))∧W.cell? ⟨G+1,1,none⟩=some (.int .u8 (i.im/256)))∧W.cell? ⟨G+1+1,0,none⟩=some (.int .u8 (i.ax%256))∧W.cell? ⟨G+1+1,1,none⟩=some (.int .u8 (i.ax/256)):=by
 obtain⟨_,_,e2,_,_,e5,_⟩:=dH h.hi;refine⟨⟨e2,e5⟩,?_⟩;unfold World.cell?;rw[h.him,h.hax];exact⟨⟨rfl,rfl⟩,rfl,rfl⟩
theorem jS{W w1:World}{B G:Nat}{v0 v1 v2 v3 v4 v5:Value}{o:Obj}(h:W.cell? ⟨B,2,none⟩=some v0∧W.cell? ⟨B,5,none⟩=some v1∧W.cell? ⟨G+1,0,none⟩=some v2∧W.cell? ⟨G+1,1,none⟩=some v3∧W.cell? ⟨G+1+1,0,none⟩=some v4∧W.cell? ⟨G+1+1,1,none⟩=some v5)(hg:(W.alloc o).grownBy w1 (some G))(hB:B < G):
  w1.cell? ⟨B,2,none⟩=some v0∧w1.cell? ⟨B,5,none⟩=some v1∧w1.cell? ⟨G+1,0,none⟩=some v2∧w1.cell? ⟨G+1,1,none⟩=some v3∧w1.cell? ⟨G+1+1,0,none⟩=some v4∧w1.cell? ⟨G+1+1,1,none⟩=some v5:=by
 obtain⟨h0,h1,h2,h3,h4,h5⟩:=h;exact⟨hg.cell (bZ h0 o) (by simp;omega),hg.cell (bZ h1 o) (by simp;omega),hg.cell (bZ h2 o) (by simp),hg.cell (bZ h3 o) (by simp),hg.cell (bZ h4 o) (by simp;omega),hg.cell (bZ h5 o) (by simp;omega)⟩
theorem bg{W:World}{B G:Nat}{v0 v1 v2 v3 v4 v5:Value}(h:W.cell? ⟨B,2,none⟩=some v0∧W.cell? ⟨B,5,none⟩=some v1∧W.cell? ⟨G+1,0,none⟩=some v2∧W.cell? ⟨G+1,1,none⟩=some v3∧W.cell? ⟨G+1+1,0,none⟩=some v4∧W.cell? ⟨G+1+1,1,none⟩=some v5):
  W.drew.cell? ⟨B,2,none⟩=some v0∧W.drew.cell? ⟨B,5,none⟩=some v1∧W.drew.cell? ⟨G+1,0,none⟩=some v2∧W.drew.cell? ⟨G+1,1,none⟩=some v3∧W.drew.cell? ⟨G+1+1,0,none⟩=some v4∧W.drew.cell? ⟨G+1+1,1,none⟩=some v5:=h
theorem dh{W:World}{B G:Nat}{v0 v1 v2 v3 v4 v5:Value}(h:W.cell? ⟨B,2,none⟩=some v0∧W.cell? ⟨B,5,none⟩=some v1∧W.cell? ⟨G+1,0,none⟩=some v2∧W.cell? ⟨G+1,1,none⟩=some v3∧W.cell? ⟨G+1+1,0,none⟩=some v4∧W.cell? ⟨G+1+1,1,none⟩=some v5)(o:Obj):
  (W.alloc o).cell? ⟨B,2,none⟩=some v0∧(W.alloc o).cell? ⟨B,5,none⟩=some v1∧(W.alloc o).cell? ⟨G+1,0,none⟩=some v2∧(W.alloc o).cell? ⟨G+1,1,none⟩=some v3∧(W.alloc o).cell? ⟨G+1+1,0,none⟩=some v4∧(W.alloc o).cell? ⟨G+1+1,1,none⟩=some v5:=by
 obtain⟨h0,h1,h2,h3,h4,h5⟩:=h;exact⟨bZ h0 o,bZ h1 o,bZ h2 o,bZ h3 o,bZ h4 o,bZ h5 o⟩
theorem two_any(n:Int)(w:World)(n0:0≤n)(n1:n < 65536):Calls Tryz.prog 44 #[.int .u16 n] w fun e w'=>e= .returned (.slice (some ⟨w.heap.size,0,none⟩) 2 2)∧w.alloc (.cells #[.int .u8 (n%256),.int .u8 (n/256)] 5)=w':=by
 have h1:IntKind.u8.wrap n=n%256:=by rw[IntKind.wrap_u8']
 have h2:IntKind.u8.wrap (n/256)=n/256:=by rw[IntKind.wrap_u8'];omega
 have h3:n/256%256=n/256:=by omega
 go_enter Tryz.func44,Tryz.ntmps44
 go_wp2_with fail
 go_ret
 exact⟨rfl,rfl⟩
set_option maxHeartbeats 8000000 in
theorem vM(i:Ins)(w:World)(hi:i.Ok):
  Calls Tryz.prog 19 #[dN i] w fun e w'=>e= .returned (.tuple #[.string (encS i),.int .i64 (lK i)])∧Below w.heap.size w w':=by
 obtain⟨hr0,hr1,hr2⟩:=Gz i hi;obtain⟨M0,M1⟩:=And.intro hi.m0 hi.m1;obtain⟨A0,A1⟩:=And.intro hi.a0 hi.a1;have HFm:=Nc (fun w=>gK i.op w hi.o0 hi.o1);have HV:=Nc (fun w=>pV i w hi);have HX0:=Nc (heap_alloc_new w (.cells (gJ i) 58));have HB0:=Nc ((Below.refl w.heap.size w).alloc (Nat.le_refl _) (.cells (gJ i) 58));obtain⟨f0,f1⟩:=ku i.op;have HD:=Nc (fun h=>pF i hi h);obtain⟨F,hF⟩:∃ F,rF i.op=F:=⟨_,rfl⟩;rw[hF] at HFm hr0 hr1 hr2 f0 f1 HD;obtain⟨V,hV⟩:∃ V,rV i=V:=⟨_,rfl⟩;rw[hV] at HV hr1 hr2 HD;clear hF hV hi;obtain⟨op,d,s,im,ax,bk,sz⟩:=i;simp only at M0 M1 A0 A1;by_cases hf0:F=0
 ·have HE:=Nc (hr0 hf0)
  subst hf0;clear hr0 hr1 hr2;unfold dN;go_enter Tryz.func19,Tryz.ntmps19
  go_wp2_with fail
  refine(HFm.out _).mono ?_;rintro e w1 ⟨rfl,hb⟩;have HB1:=Nc (fV hb).1;clear hb;go_wp2_with fail
  go_ret2
  exact⟨by rw[HE.out.1,HE.out.2];rfl,HB1.out⟩
 ·have HR1:=Nc (hr1 hf0)
  have HR2:=Nc hr2;have hcases:=Nc (f18 F f0 f1 hf0);clear hr0 hr1 hr2 f0 f1;unfold dN;go_enter Tryz.func19,Tryz.ntmps19
  go_wp2_with fail
  refine(HFm.out _).mono ?_;rintro e w1 ⟨rfl,hb⟩;have HX1:=Nc ((hb.block w.heap.size (by simp)).trans HX0.out);have HB1:=Nc (fV hb).1;have hs1:=(fV hb).2;clear hb;obtain⟨e0,e1,e2,e3,e4,e5,e6⟩:=dH HX1.out;simp only at e0 e1 e2 e3 e4 e5 e6;go_wp2_with fail
  refine(HV.out _).mono ?_;rintro e w2 ⟨rfl,hb⟩;have HX2:=Nc ((hb.block w.heap.size hs1).trans HX1.out);have HB2:=Nc (HB1.out.trans (hb.mono (by omega)));have hs2:w.heap.size < w2.heap.size:=by have:=hb.size;omega
  clear hb e0 e1 e2 e3 e4 e5 e6;obtain⟨e0,e1,e2,e3,e4,e5,e6⟩:=dH HX2.out;simp only at e0 e1 e2 e3 e4 e5 e6;cases V
  ·have HE:=Nc (HR1.out rfl)
   go_wp2_with fail
   go_ret2
   exact⟨by rw[HE.out.1,HE.out.2];rfl,HB2.out⟩
  ·have HE:=Nc (HR2.out rfl)
   obtain⟨_,⟨o0,o1⟩,⟨d0,d1⟩,⟨s0,s1⟩,⟨b0,b1⟩⟩:=HD.out rfl
   try simp only at o0 o1 d0 d1 s0 s1 b0 b1
   have HW:=Nc (Jf HX2.out HB2.out hs2);have z1:wrap64 (16*d)=16*d:=by unfold wrap64;omega
   have z2:wrap64 (16*d+s)=16*d+s:=by unfold wrap64;omega
   have z3:IntKind.u8.wrap (16*d+s)=16*d+s:=by rw[IntKind.wrap_u8'];omega
   have z3':(16*d+s)%256=16*d+s:=by omega
   have z4:IntKind.u8.wrap d=d:=by rw[IntKind.wrap_u8'];omega
   have z4':d%256=d:=by omega
   have z5:IntKind.u8.wrap op=op:=by rw[IntKind.wrap_u8'];omega
   have z5':op%256=op:=by omega
   have z6:IntKind.i64.wrap (16*d)=16*d:=IntWalk.i64_in _ (by omega);have z7:IntKind.i64.wrap (16*d+s)=16*d+s:=IntWalk.i64_in _ (by omega);have T0:=Nc (fun w=>two_any im w M0 M1);have T1:=Nc (fun w=>two_any ax w A0 A1);obtain⟨m0,hm0⟩:∃ x,im%256=x:=⟨_,rfl⟩;obtain⟨m1,hm1⟩:∃ x,im/256=x:=⟨_,rfl⟩;obtain⟨x0,hx0⟩:∃ x,ax%256=x:=⟨_,rfl⟩;obtain⟨x1,hx1⟩:∃ x,ax/256=x:=⟨_,rfl⟩;have hb1m:0≤m0∧m0 < 256∧0≤m1∧m1 < 256:=by omega
   have HM:=Nc (And.intro hm0 (And.intro hm1 (And.intro hx0 hx1)));have HCE:=Nc (DW HW.out)
   try simp only at HCE
   try simp only at HW
   rw[hm0,hm1] at T0;rw[hx0,hx1] at T1;rw[hm0,hm1,hx0,hx1] at HCE HW;clear hm0 hm1 hx0 hx1;go_upto_region 12 with(first | (go_at_call 44;with_reducible refine(T0.out _).mono ?_;rintro e w' ⟨rfl,rfl⟩) | (go_at_call 44;with_reducible refine(T1.out _).mono ?_;rintro e w' ⟨rfl,rfl⟩))
   obtain⟨W,hW⟩:∃ W,((w2.alloc (Obj.cells #[.int .u8 op] 5)).alloc (Obj.cells #[.int .u8 m0,.int .u8 m1] 5)).alloc (Obj.cells #[.int .u8 x0,.int .u8 x1] 5)=W:=⟨_,rfl⟩;rw[hW] at HW HCE;rw[hW];clear hW e0 e1 e2 e3 e4 e5 e6 z1 z2 z3 z3' z4 z4' z5 z5' z6 z7;obtain⟨G,hG⟩:∃ G,w2.heap.size=G:=⟨_,rfl⟩;rw[hG] at HW HCE;rw[hG];clear hG hs2;have hS1:=Nc (show(fun w':World=>w'.cell? ⟨w.heap.size,2,none⟩=some (.int .i64 s)∧w'.cell? ⟨w.heap.size,5,none⟩=some (.int .i64 bk)∧w'.cell? ⟨G+1,0,none⟩=some (.int .u8 m0)∧w'.cell? ⟨G+1,1,none⟩=some (.int .u8 m1)∧w'.cell? ⟨G+1+1,0,none⟩=some (.int .u8 x0)∧w'.cell? ⟨G+1+1,1,none⟩=some (.int .u8 x1)) W from⟨HCE.out.1.1,HCE.out.1.2,HCE.out.2.1.1,HCE.out.2.1.2,HCE.out.2.2.1,HCE.out.2.2.2⟩);simp only at hS1;obtain⟨s2,s5,t0,t1,u0,u1⟩:=hS1.out;have HBG:=Nc HW.out.hB;have HSG:=Nc HW.out.hs;have hsz:W.heap.size=G+1+1+1:=HSG.out;obtain⟨i0,hi,hz0,hz1,hz2⟩:=info_parts info5;have y1:IntKind.u8.wrap s=s:=by rw[IntKind.wrap_u8'];omega
   have y2:IntKind.u8.wrap bk=bk:=by rw[IntKind.wrap_u8'];omega
   have y3:s%256=s:=by omega
   have y4:bk%256=bk:=by omega
   rcases hcases.out with rfl|rfl|rfl|rfl|rfl|rfl|rfl|rfl|rfl|rfl|rfl|rfl|rfl|rfl|rfl|rfl|rfl|rfl
   ·have HK:=Nc (show bU 1 ⟨op,d,s,im,ax,bk,sz⟩=[op] by simp only[bU,Int.reduceEq,if_true,if_false,HM.out.1,HM.out.2.1,HM.out.2.2.1,HM.out.2.2.2])
    obtain⟨g,cap,hv,hcv⟩:=dJ HW.out.own rfl (by decide);simp only[Value.slice.injEq,Option.some.injEq,Addr.mk.injEq,and_true,true_and] at hv;obtain⟨rfl,rfl⟩:=hv;go_wp2_with fail
    go_ret2
    exact⟨by rw[HE.out.1,HE.out.2,HK.out];rfl,HW.out.hb⟩
   ·have HK:=Nc (show bU 2 ⟨op,d,s,im,ax,bk,sz⟩=[op,d] by simp only[bU,Int.reduceEq,if_true,if_false,HM.out.1,HM.out.2.1,HM.out.2.2.1,HM.out.2.2.2])
    go_wp2_with (at_builtin;refine wpList_append_own _ rfl _ _ 41 rfl (w.heap.size+1) 5 i0 (.int .u8 0) 1 1 Tryz.underlying41 hi hz0 hz1 hz2 rfl (by decide) _ _ _ rfl (HW.out.own.alloc _) ⟨G+1+1+1,0,none⟩ 1 1 (aK [d]) rfl rfl (by rw[← HSG.out];exact bf (heap_alloc_new W (.cells #[.int .u8 (d)] 5))) (dL _) (by decide) (by decide) (by have:=HBG.out;have:=HSG.out;simp;omega) ?_)
    intro v1 w3 hown1 hg hn;have hown2:w3.ownsRow (w.heap.size+1) 5 1 v1 2 (aK [op,d]):=hown1;obtain⟨g,cap,rfl,hcv⟩:=dJ hown2 rfl (by decide);have HBW:=Nc (dM HW.out hg);clear hown1 hown2 hg hn s2 s5 t0 t1 u0 u1;go_wp2_with fail
    go_ret2
    exact⟨by rw[HE.out.1,HE.out.2,HK.out];rfl,HBW.out⟩
   ·have HK:=Nc (show bU 3 ⟨op,d,s,im,ax,bk,sz⟩=[op,m0] by simp only[bU,Int.reduceEq,if_true,if_false,HM.out.1,HM.out.2.1,HM.out.2.2.1,HM.out.2.2.2])
    go_wp2_with (at_builtin;refine wpList_append_own _ rfl _ _ 41 rfl (w.heap.size+1) 5 i0 (.int .u8 0) 1 1 Tryz.underlying41 hi hz0 hz1 hz2 rfl (by decide) _ _ _ rfl (HW.out.own.alloc _) ⟨G+1+1+1,0,none⟩ 1 1 (aK [m0]) rfl rfl (by rw[← HSG.out];exact bf (heap_alloc_new W (.cells #[.int .u8 (m0)] 5))) (dL _) (by decide) (by decide) (by have:=HBG.out;have:=HSG.out;simp;omega) ?_)
    intro v1 w3 hown1 hg hn;have hown2:w3.ownsRow (w.heap.size+1) 5 1 v1 2 (aK [op,m0]):=hown1;obtain⟨g,cap,rfl,hcv⟩:=dJ hown2 rfl (by decide);have HBW:=Nc (dM HW.out hg);clear hown1 hown2 hg hn s2 s5 t0 t1 u0 u1;go_wp2_with fail
    go_ret2
    exact⟨by rw[HE.out.1,HE.out.2,HK.out];rfl,HBW.out⟩
   ·have HK:=Nc (show bU 4 ⟨op,d,s,im,ax,bk,sz⟩=[op,16*d+s] by simp only[bU,Int.reduceEq,if_true,if_false,HM.out.1,HM.out.2.1,HM.out.2.2.1,HM.out.2.2.2])
    go_wp2_with (at_builtin;refine wpList_append_own _ rfl _ _ 41 rfl (w.heap.size+1) 5 i0 (.int .u8 0) 1 1 Tryz.underlying41 hi hz0 hz1 hz2 rfl (by decide) _ _ _ rfl (HW.out.own.alloc _) ⟨G+1+1+1,0,none⟩ 1 1 (aK [16*d+s]) rfl rfl (by rw[← HSG.out];exact bf (heap_alloc_new W (.cells #[.int .u8 (16*d+s)] 5))) (dL _) (by decide) (by decide) (by have:=HBG.out;have:=HSG.out;simp;omega) ?_)
    intro v1 w3 hown1 hg hn;have hown2:w3.ownsRow (w.heap.size+1) 5 1 v1 2 (aK [op,16*d+s]):=hown1;obtain⟨g,cap,rfl,hcv⟩:=dJ hown2 rfl (by decide);have HBW:=Nc (dM HW.out hg);clear hown1 hown2 hg hn s2 s5 t0 t1 u0 u1;go_wp2_with fail
    go_ret2
    exact⟨by rw[HE.out.1,HE.out.2,HK.out];rfl,HBW.out⟩
   ·have HK:=Nc (show bU 5 ⟨op,d,s,im,ax,bk,sz⟩=[op,d,m0] by simp only[bU,Int.reduceEq,if_true,if_false,HM.out.1,HM.out.2.1,HM.out.2.2.1,HM.out.2.2.2])
    go_wp2_with (at_builtin;refine wpList_append_own _ rfl _ _ 41 rfl (w.heap.size+1) 5 i0 (.int .u8 0) 1 1 Tryz.underlying41 hi hz0 hz1 hz2 rfl (by decide) _ _ _ rfl (HW.out.own.alloc _) ⟨G+1+1+1,0,none⟩ 2 2 (aK [d,m0]) rfl rfl (by rw[← HSG.out];exact bf (heap_alloc_new W (.cells #[.int .u8 (d),.int .u8 (m0)] 5))) (dL _) (by decide) (by decide) (by have:=HBG.out;have:=HSG.out;simp;omega) ?_)
    intro v1 w3 hown1 hg hn;have hown2:w3.ownsRow (w.heap.size+1) 5 1 v1 3 (aK [op,d,m0]):=hown1;obtain⟨g,cap,rfl,hcv⟩:=dJ hown2 rfl (by decide);have HBW:=Nc (dM HW.out hg);clear hown1 hown2 hg hn s2 s5 t0 t1 u0 u1;go_wp2_with fail
    go_ret2
    exact⟨by rw[HE.out.1,HE.out.2,HK.out];rfl,HBW.out⟩
   ·have HK:=Nc (show bU 6 ⟨op,d,s,im,ax,bk,sz⟩=[op,d,m0,m1] by simp only[bU,Int.reduceEq,if_true,if_false,HM.out.1,HM.out.2.1,HM.out.2.2.1,HM.out.2.2.2])
    go_upto_region 27 with fail
    go_region_held3 (fun w'=>w'.cell? ⟨w.heap.size,2,none⟩=some (.int .i64 s)∧w'.cell? ⟨w.heap.size,5,none⟩=some (.int .i64 bk)∧w'.cell? ⟨G+1,0,none⟩=some (.int .u8 m0)∧w'.cell? ⟨G+1,1,none⟩=some (.int .u8 m1)∧w'.cell? ⟨G+1+1,0,none⟩=some (.int .u8 x0)∧w'.cell? ⟨G+1+1,1,none⟩=some (.int .u8 x1))
     (first | with_reducible exact hS1.out | with_reducible exact bg hS1.out | with_reducible exact dh (bg hS1.out) _ | with_reducible exact bg (dh hS1.out _) | with_reducible exact hs2.out | with_reducible exact bg hs2.out)
     (first
      | (refine wp_append_own _ (.tmp 77) (.tmp 85) 41 rfl (w.heap.size+1) 5 i0 (.int .u8 0) 1 1 Tryz.underlying41 hi hz0 hz1 hz2 rfl (by decide) _ 1 (aK [op]) rfl (HW.out.own.drew.alloc _) ⟨G+1+1+1,0,none⟩ 3 3 (aK [d,m0,m1]) rfl rfl (by rw[← HSG.out];exact bf (heap_alloc_new W.drew (.cells #[.int .u8 (d),.int .u8 (m0),.int .u8 (m1)] 5))) (dL _) (by decide) (by decide) (by have:=HBG.out;have:=HSG.out;simp;omega) ?_;intro v1 w3 hown1 hg hn;have hg2:=Nc (show(W.alloc (.cells #[.int .u8 (d),.int .u8 (m0),.int .u8 (m1)] 5)).grownBy w3 (some G) from⟨hg.os,hg.tape,hg.output,hg.size,hg.block⟩);have hs2:=Nc (jS hS1.out hg2.out HBG.out);have ho2:=Nc (show w3.ownsRow (w.heap.size+1) 5 1 v1 4 (aK [op,d,m0,m1]) from hown1);clear hown1 hg hn)
      | (refine wp_append_own _ (.tmp 77) (.tmp 85) 41 rfl (w.heap.size+1) 5 i0 (.int .u8 0) 1 1 Tryz.underlying41 hi hz0 hz1 hz2 rfl (by decide) _ 1 (aK [op]) rfl ((HW.out.own.alloc _).drew) ⟨G+1+1+1,0,none⟩ 3 3 (aK [d,m0,m1]) rfl rfl (by rw[← HSG.out];exact bf (heap_alloc_new W (.cells #[.int .u8 (d),.int .u8 (m0),.int .u8 (m1)] 5))) (dL _) (by decide) (by decide) (by have:=HBG.out;have:=HSG.out;simp;omega) ?_;intro v1 w3 hown1 hg hn;have hg2:=Nc (show(W.alloc (.cells #[.int .u8 (d),.int .u8 (m0),.int .u8 (m1)] 5)).grownBy w3 (some G) from⟨hg.os,hg.tape,hg.output,hg.size,hg.block⟩);have hs2:=Nc (jS hS1.out hg2.out HBG.out);have ho2:=Nc (show w3.ownsRow (w.heap.size+1) 5 1 v1 4 (aK [op,d,m0,m1]) from hown1);clear hown1 hg hn))
    all_goals
     obtain⟨g,cap,rfl,hcv⟩:=dJ ho2.out rfl (by decide);have HBW:=Nc (dM HW.out hg2.out);clear s2 s5 t0 t1 u0 u1 ho2;go_wp2_with fail
     go_ret2
     exact⟨by rw[HE.out.1,HE.out.2,HK.out];rfl,HBW.out⟩
   ·have HK:=Nc (show bU 7 ⟨op,d,s,im,ax,bk,sz⟩=[op,16*d+s,m0] by simp only[bU,Int.reduceEq,if_true,if_false,HM.out.1,HM.out.2.1,HM.out.2.2.1,HM.out.2.2.2])
    go_wp2_with (at_builtin;refine wpList_append_own _ rfl _ _ 41 rfl (w.heap.size+1) 5 i0 (.int .u8 0) 1 1 Tryz.underlying41 hi hz0 hz1 hz2 rfl (by decide) _ _ _ rfl (HW.out.own.alloc _) ⟨G+1+1+1,0,none⟩ 2 2 (aK [16*d+s,m0]) rfl rfl (by rw[← HSG.out];exact bf (heap_alloc_new W (.cells #[.int .u8 (16*d+s),.int .u8 (m0)] 5))) (dL _) (by decide) (by decide) (by have:=HBG.out;have:=HSG.out;simp;omega) ?_)
    intro v1 w3 hown1 hg hn;have hown2:w3.ownsRow (w.heap.size+1) 5 1 v1 3 (aK [op,16*d+s,m0]):=hown1;obtain⟨g,cap,rfl,hcv⟩:=dJ hown2 rfl (by decide);have HBW:=Nc (dM HW.out hg);clear hown1 hown2 hg hn s2 s5 t0 t1 u0 u1;go_wp2_with fail
    go_ret2
    exact⟨by rw[HE.out.1,HE.out.2,HK.out];rfl,HBW.out⟩
   ·have HK:=Nc (show bU 8 ⟨op,d,s,im,ax,bk,sz⟩=[op,16*d+s,m0,m1] by simp only[bU,Int.reduceEq,if_true,if_false,HM.out.1,HM.out.2.1,HM.out.2.2.1,HM.out.2.2.2])
    go_upto_region 31 with fail
    go_region_held3 (fun w'=>w'.cell? ⟨w.heap.size,2,none⟩=some (.int .i64 s)∧w'.cell? ⟨w.heap.size,5,none⟩=some (.int .i64 bk)∧w'.cell? ⟨G+1,0,none⟩=some (.int .u8 m0)∧w'.cell? ⟨G+1,1,none⟩=some (.int .u8 m1)∧w'.cell? ⟨G+1+1,0,none⟩=some (.int .u8 x0)∧w'.cell? ⟨G+1+1,1,none⟩=some (.int .u8 x1))
     (first | with_reducible exact hS1.out | with_reducible exact bg hS1.out | with_reducible exact dh (bg hS1.out) _ | with_reducible exact bg (dh hS1.out _) | with_reducible exact hs2.out | with_reducible exact bg hs2.out)
     (first
      | (refine wp_append_own _ (.tmp 98) (.tmp 106) 41 rfl (w.heap.size+1) 5 i0 (.int .u8 0) 1 1 Tryz.underlying41 hi hz0 hz1 hz2 rfl (by decide) _ 1 (aK [op]) rfl (HW.out.own.drew.alloc _) ⟨G+1+1+1,0,none⟩ 3 3 (aK [16*d+s,m0,m1]) rfl rfl (by rw[← HSG.out];exact bf (heap_alloc_new W.drew (.cells #[.int .u8 (16*d+s),.int .u8 (m0),.int .u8 (m1)] 5))) (dL _) (by decide) (by decide) (by have:=HBG.out;have:=HSG.out;simp;omega) ?_;intro v1 w3 hown1 hg hn;have hg2:=Nc (show(W.alloc (.cells #[.int .u8 (16*d+s),.int .u8 (m0),.int .u8 (m1)] 5)).grownBy w3 (some G) from⟨hg.os,hg.tape,hg.output,hg.size,hg.block⟩);have hs2:=Nc (jS hS1.out hg2.out HBG.out);have ho2:=Nc (show w3.ownsRow (w.heap.size+1) 5 1 v1 4 (aK [op,16*d+s,m0,m1]) from hown1);clear hown1 hg hn)
      | (refine wp_append_own _ (.tmp 98) (.tmp 106) 41 rfl (w.heap.size+1) 5 i0 (.int .u8 0) 1 1 Tryz.underlying41 hi hz0 hz1 hz2 rfl (by decide) _ 1 (aK [op]) rfl ((HW.out.own.alloc _).drew) ⟨G+1+1+1,0,none⟩ 3 3 (aK [16*d+s,m0,m1]) rfl rfl (by rw[← HSG.out];exact bf (heap_alloc_new W (.cells #[.int .u8 (16*d+s),.int .u8 (m0),.int .u8 (m1)] 5))) (dL _) (by decide) (by decide) (by have:=HBG.out;have:=HSG.out;simp;omega) ?_;intro v1 w3 hown1 hg hn;have hg2:=Nc (show(W.alloc (.cells #[.int .u8 (16*d+s),.int .u8 (m0),.int .u8 (m1)] 5)).grownBy w3 (some G) from⟨hg.os,hg.tape,hg.output,hg.size,hg.block⟩);have hs2:=Nc (jS hS1.out hg2.out HBG.out);have ho2:=Nc (show w3.ownsRow (w.heap.size+1) 5 1 v1 4 (aK [op,16*d+s,m0,m1]) from hown1);clear hown1 hg hn))
    all_goals
     obtain⟨g,cap,rfl,hcv⟩:=dJ ho2.out rfl (by decide);have HBW:=Nc (dM HW.out hg2.out);clear s2 s5 t0 t1 u0 u1 ho2;go_wp2_with fail
     go_ret2
     exact⟨by rw[HE.out.1,HE.out.2,HK.out];rfl,HBW.out⟩
   ·have HK:=Nc (show bU 9 ⟨op,d,s,im,ax,bk,sz⟩=[op,d,m0,m1] by simp only[bU,Int.reduceEq,if_true,if_false,HM.out.1,HM.out.2.1,HM.out.2.2.1,HM.out.2.2.2])
    go_upto_region 27 with fail
    go_region_held3 (fun w'=>w'.cell? ⟨w.heap.size,2,none⟩=some (.int .i64 s)∧w'.cell? ⟨w.heap.size,5,none⟩=some (.int .i64 bk)∧w'.cell? ⟨G+1,0,none⟩=some (.int .u8 m0)∧w'.cell? ⟨G+1,1,none⟩=some (.int .u8 m1)∧w'.cell? ⟨G+1+1,0,none⟩=some (.int .u8 x0)∧w'.cell? ⟨G+1+1,1,none⟩=some (.int .u8 x1))
     (first | with_reducible exact hS1.out | with_reducible exact bg hS1.out | with_reducible exact dh (bg hS1.out) _ | with_reducible exact bg (dh hS1.out _) | with_reducible exact hs2.out | with_reducible exact bg hs2.out)
     (first
      | (refine wp_append_own _ (.tmp 77) (.tmp 85) 41 rfl (w.heap.size+1) 5 i0 (.int .u8 0) 1 1 Tryz.underlying41 hi hz0 hz1 hz2 rfl (by decide) _ 1 (aK [op]) rfl (HW.out.own.drew.alloc _) ⟨G+1+1+1,0,none⟩ 3 3 (aK [d,m0,m1]) rfl rfl (by rw[← HSG.out];exact bf (heap_alloc_new W.drew (.cells #[.int .u8 (d),.int .u8 (m0),.int .u8 (m1)] 5))) (dL _) (by decide) (by decide) (by have:=HBG.out;have:=HSG.out;simp;omega) ?_;intro v1 w3 hown1 hg hn;have hg2:=Nc (show(W.alloc (.cells #[.int .u8 (d),.int .u8 (m0),.int .u8 (m1)] 5)).grownBy w3 (some G) from⟨hg.os,hg.tape,hg.output,hg.size,hg.block⟩);have hs2:=Nc (jS hS1.out hg2.out HBG.out);have ho2:=Nc (show w3.ownsRow (w.heap.size+1) 5 1 v1 4 (aK [op,d,m0,m1]) from hown1);clear hown1 hg hn)
      | (refine wp_append_own _ (.tmp 77) (.tmp 85) 41 rfl (w.heap.size+1) 5 i0 (.int .u8 0) 1 1 Tryz.underlying41 hi hz0 hz1 hz2 rfl (by decide) _ 1 (aK [op]) rfl ((HW.out.own.alloc _).drew) ⟨G+1+1+1,0,none⟩ 3 3 (aK [d,m0,m1]) rfl rfl (by rw[← HSG.out];exact bf (heap_alloc_new W (.cells #[.int .u8 (d),.int .u8 (m0),.int .u8 (m1)] 5))) (dL _) (by decide) (by decide) (by have:=HBG.out;have:=HSG.out;simp;omega) ?_;intro v1 w3 hown1 hg hn;have hg2:=Nc (show(W.alloc (.cells #[.int .u8 (d),.int .u8 (m0),.int .u8 (m1)] 5)).grownBy w3 (some G) from⟨hg.os,hg.tape,hg.output,hg.size,hg.block⟩);have hs2:=Nc (jS hS1.out hg2.out HBG.out);have ho2:=Nc (show w3.ownsRow (w.heap.size+1) 5 1 v1 4 (aK [op,d,m0,m1]) from hown1);clear hown1 hg hn))
    all_goals
     obtain⟨g,cap,rfl,hcv⟩:=dJ ho2.out rfl (by decide);have HBW:=Nc (dM HW.out hg2.out);clear s2 s5 t0 t1 u0 u1 ho2;go_wp2_with fail
     go_ret2
     exact⟨by rw[HE.out.1,HE.out.2,HK.out];rfl,HBW.out⟩
   ·have HK:=Nc (show bU 10 ⟨op,d,s,im,ax,bk,sz⟩=[op,m0] by simp only[bU,Int.reduceEq,if_true,if_false,HM.out.1,HM.out.2.1,HM.out.2.2.1,HM.out.2.2.2])
    go_wp2_with (at_builtin;refine wpList_append_own _ rfl _ _ 41 rfl (w.heap.size+1) 5 i0 (.int .u8 0) 1 1 Tryz.underlying41 hi hz0 hz1 hz2 rfl (by decide) _ _ _ rfl (HW.out.own.alloc _) ⟨G+1+1+1,0,none⟩ 1 1 (aK [m0]) rfl rfl (by rw[← HSG.out];exact bf (heap_alloc_new W (.cells #[.int .u8 (m0)] 5))) (dL _) (by decide) (by decide) (by have:=HBG.out;have:=HSG.out;simp;omega) ?_)
    intro v1 w3 hown1 hg hn;have hown2:w3.ownsRow (w.heap.size+1) 5 1 v1 2 (aK [op,m0]):=hown1;obtain⟨g,cap,rfl,hcv⟩:=dJ hown2 rfl (by decide);have HBW:=Nc (dM HW.out hg);clear hown1 hown2 hg hn s2 s5 t0 t1 u0 u1;go_wp2_with fail
    go_ret2
    exact⟨by rw[HE.out.1,HE.out.2,HK.out];rfl,HBW.out⟩
   ·have HK:=Nc (show bU 11 ⟨op,d,s,im,ax,bk,sz⟩=[op,m0,m1] by simp only[bU,Int.reduceEq,if_true,if_false,HM.out.1,HM.out.2.1,HM.out.2.2.1,HM.out.2.2.2])
    go_upto_region 33 with fail
    go_region_held3 (fun w'=>w'.cell? ⟨w.heap.size,2,none⟩=some (.int .i64 s)∧w'.cell? ⟨w.heap.size,5,none⟩=some (.int .i64 bk)∧w'.cell? ⟨G+1,0,none⟩=some (.int .u8 m0)∧w'.cell? ⟨G+1,1,none⟩=some (.int .u8 m1)∧w'.cell? ⟨G+1+1,0,none⟩=some (.int .u8 x0)∧w'.cell? ⟨G+1+1,1,none⟩=some (.int .u8 x1))
     (first | with_reducible exact hS1.out | with_reducible exact bg hS1.out | with_reducible exact dh (bg hS1.out) _ | with_reducible exact bg (dh hS1.out _) | with_reducible exact hs2.out | with_reducible exact bg hs2.out)
     (first
      | (refine wp_append_own _ (.tmp 110) (.tmp 117) 41 rfl (w.heap.size+1) 5 i0 (.int .u8 0) 1 1 Tryz.underlying41 hi hz0 hz1 hz2 rfl (by decide) _ 1 (aK [op]) rfl (HW.out.own.drew.alloc _) ⟨G+1+1+1,0,none⟩ 2 2 (aK [m0,m1]) rfl rfl (by rw[← HSG.out];exact bf (heap_alloc_new W.drew (.cells #[.int .u8 (m0),.int .u8 (m1)] 5))) (dL _) (by decide) (by decide) (by have:=HBG.out;have:=HSG.out;simp;omega) ?_;intro v1 w3 hown1 hg hn;have hg2:=Nc (show(W.alloc (.cells #[.int .u8 (m0),.int .u8 (m1)] 5)).grownBy w3 (some G) from⟨hg.os,hg.tape,hg.output,hg.size,hg.block⟩);have hs2:=Nc (jS hS1.out hg2.out HBG.out);have ho2:=Nc (show w3.ownsRow (w.heap.size+1) 5 1 v1 3 (aK [op,m0,m1]) from hown1);clear hown1 hg hn)
      | (refine wp_append_own _ (.tmp 110) (.tmp 117) 41 rfl (w.heap.size+1) 5 i0 (.int .u8 0) 1 1 Tryz.underlying41 hi hz0 hz1 hz2 rfl (by decide) _ 1 (aK [op]) rfl ((HW.out.own.alloc _).drew) ⟨G+1+1+1,0,none⟩ 2 2 (aK [m0,m1]) rfl rfl (by rw[← HSG.out];exact bf (heap_alloc_new W (.cells #[.int .u8 (m0),.int .u8 (m1)] 5))) (dL _) (by decide) (by decide) (by have:=HBG.out;have:=HSG.out;simp;omega) ?_;intro v1 w3 hown1 hg hn;have hg2:=Nc (show(W.alloc (.cells #[.int .u8 (m0),.int .u8 (m1)] 5)).grownBy w3 (some G) from⟨hg.os,hg.tape,hg.output,hg.size,hg.block⟩);have hs2:=Nc (jS hS1.out hg2.out HBG.out);have ho2:=Nc (show w3.ownsRow (w.heap.size+1) 5 1 v1 3 (aK [op,m0,m1]) from hown1);clear hown1 hg hn))
    all_goals
     obtain⟨g,cap,rfl,hcv⟩:=dJ ho2.out rfl (by decide);have HBW:=Nc (dM HW.out hg2.out);clear s2 s5 t0 t1 u0 u1 ho2;go_wp2_with fail
     go_ret2
     exact⟨by rw[HE.out.1,HE.out.2,HK.out];rfl,HBW.out⟩
   ·have HK:=Nc (show bU 12 ⟨op,d,s,im,ax,bk,sz⟩=[op,bk,m0,m1] by simp only[bU,Int.reduceEq,if_true,if_false,HM.out.1,HM.out.2.1,HM.out.2.2.1,HM.out.2.2.2])
    go_upto_region 35 with fail
    go_region_held3 (fun w'=>w'.cell? ⟨w.heap.size,2,none⟩=some (.int .i64 s)∧w'.cell? ⟨w.heap.size,5,none⟩=some (.int .i64 bk)∧w'.cell? ⟨G+1,0,none⟩=some (.int .u8 m0)∧w'.cell? ⟨G+1,1,none⟩=some (.int .u8 m1)∧w'.cell? ⟨G+1+1,0,none⟩=some (.int .u8 x0)∧w'.cell? ⟨G+1+1,1,none⟩=some (.int .u8 x1))
     (first | with_reducible exact hS1.out | with_reducible exact bg hS1.out | with_reducible exact dh (bg hS1.out) _ | with_reducible exact bg (dh hS1.out _) | with_reducible exact hs2.out | with_reducible exact bg hs2.out)
     (first
      | (refine wp_append_own _ (.tmp 121) (.tmp 131) 41 rfl (w.heap.size+1) 5 i0 (.int .u8 0) 1 1 Tryz.underlying41 hi hz0 hz1 hz2 rfl (by decide) _ 1 (aK [op]) rfl (HW.out.own.drew.alloc _) ⟨G+1+1+1,0,none⟩ 3 3 (aK [bk,m0,m1]) rfl rfl (by rw[← HSG.out];exact bf (heap_alloc_new W.drew (.cells #[.int .u8 (bk),.int .u8 (m0),.int .u8 (m1)] 5))) (dL _) (by decide) (by decide) (by have:=HBG.out;have:=HSG.out;simp;omega) ?_;intro v1 w3 hown1 hg hn;have hg2:=Nc (show(W.alloc (.cells #[.int .u8 (bk),.int .u8 (m0),.int .u8 (m1)] 5)).grownBy w3 (some G) from⟨hg.os,hg.tape,hg.output,hg.size,hg.block⟩);have hs2:=Nc (jS hS1.out hg2.out HBG.out);have ho2:=Nc (show w3.ownsRow (w.heap.size+1) 5 1 v1 4 (aK [op,bk,m0,m1]) from hown1);clear hown1 hg hn)
      | (refine wp_append_own _ (.tmp 121) (.tmp 131) 41 rfl (w.heap.size+1) 5 i0 (.int .u8 0) 1 1 Tryz.underlying41 hi hz0 hz1 hz2 rfl (by decide) _ 1 (aK [op]) rfl ((HW.out.own.alloc _).drew) ⟨G+1+1+1,0,none⟩ 3 3 (aK [bk,m0,m1]) rfl rfl (by rw[← HSG.out];exact bf (heap_alloc_new W (.cells #[.int .u8 (bk),.int .u8 (m0),.int .u8 (m1)] 5))) (dL _) (by decide) (by decide) (by have:=HBG.out;have:=HSG.out;simp;omega) ?_;intro v1 w3 hown1 hg hn;have hg2:=Nc (show(W.alloc (.cells #[.int .u8 (bk),.int .u8 (m0),.int .u8 (m1)] 5)).grownBy w3 (some G) from⟨hg.os,hg.tape,hg.output,hg.size,hg.block⟩);have hs2:=Nc (jS hS1.out hg2.out HBG.out);have ho2:=Nc (show w3.ownsRow (w.heap.size+1) 5 1 v1 4 (aK [op,bk,m0,m1]) from hown1);clear hown1 hg hn))
    all_goals
     obtain⟨g,cap,rfl,hcv⟩:=dJ ho2.out rfl (by decide);have HBW:=Nc (dM HW.out hg2.out);clear s2 s5 t0 t1 u0 u1 ho2;go_wp2_with fail
     go_ret2
     exact⟨by rw[HE.out.1,HE.out.2,HK.out];rfl,HBW.out⟩
   ·have HK:=Nc (show bU 13 ⟨op,d,s,im,ax,bk,sz⟩=[op,d,bk,m0,m1,x0,x1] by simp only[bU,Int.reduceEq,if_true,if_false,HM.out.1,HM.out.2.1,HM.out.2.2.1,HM.out.2.2.2])
    go_upto_region 37 with fail
    go_region_held3 (fun w'=>w'.cell? ⟨w.heap.size,2,none⟩=some (.int .i64 s)∧w'.cell? ⟨w.heap.size,5,none⟩=some (.int .i64 bk)∧w'.cell? ⟨G+1,0,none⟩=some (.int .u8 m0)∧w'.cell? ⟨G+1,1,none⟩=some (.int .u8 m1)∧w'.cell? ⟨G+1+1,0,none⟩=some (.int .u8 x0)∧w'.cell? ⟨G+1+1,1,none⟩=some (.int .u8 x1))
     (first | with_reducible exact hS1.out | with_reducible exact bg hS1.out | with_reducible exact dh (bg hS1.out) _ | with_reducible exact bg (dh hS1.out _) | with_reducible exact hs2.out | with_reducible exact bg hs2.out)
     (first
      | (refine wp_append_own _ (.tmp 135) (.tmp 152) 41 rfl (w.heap.size+1) 5 i0 (.int .u8 0) 1 1 Tryz.underlying41 hi hz0 hz1 hz2 rfl (by decide) _ 1 (aK [op]) rfl (HW.out.own.drew.alloc _) ⟨G+1+1+1,0,none⟩ 6 6 (aK [d,bk,m0,m1,x0,x1]) rfl rfl (by rw[← HSG.out];exact bf (heap_alloc_new W.drew (.cells #[.int .u8 (d),.int .u8 (bk),.int .u8 (m0),.int .u8 (m1),.int .u8 (x0),.int .u8 (x1)] 5))) (dL _) (by decide) (by decide) (by have:=HBG.out;have:=HSG.out;simp;omega) ?_;intro v1 w3 hown1 hg hn;have hg2:=Nc (show(W.alloc (.cells #[.int .u8 (d),.int .u8 (bk),.int .u8 (m0),.int .u8 (m1),.int .u8 (x0),.int .u8 (x1)] 5)).grownBy w3 (some G) from⟨hg.os,hg.tape,hg.output,hg.size,hg.block⟩);have hs2:=Nc (jS hS1.out hg2.out HBG.out);have ho2:=Nc (show w3.ownsRow (w.heap.size+1) 5 1 v1 7 (aK [op,d,bk,m0,m1,x0,x1]) from hown1);clear hown1 hg hn)
      | (refine wp_append_own _ (.tmp 135) (.tmp 152) 41 rfl (w.heap.size+1) 5 i0 (.int .u8 0) 1 1 Tryz.underlying41 hi hz0 hz1 hz2 rfl (by decide) _ 1 (aK [op]) rfl ((HW.out.own.alloc _).drew) ⟨G+1+1+1,0,none⟩ 6 6 (aK [d,bk,m0,m1,x0,x1]) rfl rfl (by rw[← HSG.out];exact bf (heap_alloc_new W (.cells #[.int .u8 (d),.int .u8 (bk),.int .u8 (m0),.int .u8 (m1),.int .u8 (x0),.int .u8 (x1)] 5))) (dL _) (by decide) (by decide) (by have:=HBG.out;have:=HSG.out;simp;omega) ?_;intro v1 w3 hown1 hg hn;have hg2:=Nc (show(W.alloc (.cells #[.int .u8 (d),.int .u8 (bk),.int .u8 (m0),.int .u8 (m1),.int .u8 (x0),.int .u8 (x1)] 5)).grownBy w3 (some G) from⟨hg.os,hg.tape,hg.output,hg.size,hg.block⟩);have hs2:=Nc (jS hS1.out hg2.out HBG.out);have ho2:=Nc (show w3.ownsRow (w.heap.size+1) 5 1 v1 7 (aK [op,d,bk,m0,m1,x0,x1]) from hown1);clear hown1 hg hn))
    all_goals
     obtain⟨g,cap,rfl,hcv⟩:=dJ ho2.out rfl (by decide);have HBW:=Nc (dM HW.out hg2.out);clear s2 s5 t0 t1 u0 u1 ho2;go_wp2_with fail
     go_ret2
     exact⟨by rw[HE.out.1,HE.out.2,HK.out];rfl,HBW.out⟩
   ·have HK:=Nc (show bU 14 ⟨op,d,s,im,ax,bk,sz⟩=[op,d,m0,m1] by simp only[bU,Int.reduceEq,if_true,if_false,HM.out.1,HM.out.2.1,HM.out.2.2.1,HM.out.2.2.2])
    go_upto_region 27 with fail
    go_region_held3 (fun w'=>w'.cell? ⟨w.heap.size,2,none⟩=some (.int .i64 s)∧w'.cell? ⟨w.heap.size,5,none⟩=some (.int .i64 bk)∧w'.cell? ⟨G+1,0,none⟩=some (.int .u8 m0)∧w'.cell? ⟨G+1,1,none⟩=some (.int .u8 m1)∧w'.cell? ⟨G+1+1,0,none⟩=some (.int .u8 x0)∧w'.cell? ⟨G+1+1,1,none⟩=some (.int .u8 x1))
     (first | with_reducible exact hS1.out | with_reducible exact bg hS1.out | with_reducible exact dh (bg hS1.out) _ | with_reducible exact bg (dh hS1.out _) | with_reducible exact hs2.out | with_reducible exact bg hs2.out)
     (first
      | (refine wp_append_own _ (.tmp 77) (.tmp 85) 41 rfl (w.heap.size+1) 5 i0 (.int .u8 0) 1 1 Tryz.underlying41 hi hz0 hz1 hz2 rfl (by decide) _ 1 (aK [op]) rfl (HW.out.own.drew.alloc _) ⟨G+1+1+1,0,none⟩ 3 3 (aK [d,m0,m1]) rfl rfl (by rw[← HSG.out];exact bf (heap_alloc_new W.drew (.cells #[.int .u8 (d),.int .u8 (m0),.int .u8 (m1)] 5))) (dL _) (by decide) (by decide) (by have:=HBG.out;have:=HSG.out;simp;omega) ?_;intro v1 w3 hown1 hg hn;have hg2:=Nc (show(W.alloc (.cells #[.int .u8 (d),.int .u8 (m0),.int .u8 (m1)] 5)).grownBy w3 (some G) from⟨hg.os,hg.tape,hg.output,hg.size,hg.block⟩);have hs2:=Nc (jS hS1.out hg2.out HBG.out);have ho2:=Nc (show w3.ownsRow (w.heap.size+1) 5 1 v1 4 (aK [op,d,m0,m1]) from hown1);clear hown1 hg hn)
      | (refine wp_append_own _ (.tmp 77) (.tmp 85) 41 rfl (w.heap.size+1) 5 i0 (.int .u8 0) 1 1 Tryz.underlying41 hi hz0 hz1 hz2 rfl (by decide) _ 1 (aK [op]) rfl ((HW.out.own.alloc _).drew) ⟨G+1+1+1,0,none⟩ 3 3 (aK [d,m0,m1]) rfl rfl (by rw[← HSG.out];exact bf (heap_alloc_new W (.cells #[.int .u8 (d),.int .u8 (m0),.int .u8 (m1)] 5))) (dL _) (by decide) (by decide) (by have:=HBG.out;have:=HSG.out;simp;omega) ?_;intro v1 w3 hown1 hg hn;have hg2:=Nc (show(W.alloc (.cells #[.int .u8 (d),.int .u8 (m0),.int .u8 (m1)] 5)).grownBy w3 (some G) from⟨hg.os,hg.tape,hg.output,hg.size,hg.block⟩);have hs2:=Nc (jS hS1.out hg2.out HBG.out);have ho2:=Nc (show w3.ownsRow (w.heap.size+1) 5 1 v1 4 (aK [op,d,m0,m1]) from hown1);clear hown1 hg hn))
    all_goals
     obtain⟨g,cap,rfl,hcv⟩:=dJ ho2.out rfl (by decide);have HBW:=Nc (dM HW.out hg2.out);clear s2 s5 t0 t1 u0 u1 ho2;go_wp2_with fail
     go_ret2
     exact⟨by rw[HE.out.1,HE.out.2,HK.out];rfl,HBW.out⟩
   ·have HK:=Nc (show bU 15 ⟨op,d,s,im,ax,bk,sz⟩=[op,d,m0] by simp only[bU,Int.reduceEq,if_true,if_false,HM.out.1,HM.out.2.1,HM.out.2.2.1,HM.out.2.2.2])
    go_wp2_with (at_builtin;refine wpList_append_own _ rfl _ _ 41 rfl (w.heap.size+1) 5 i0 (.int .u8 0) 1 1 Tryz.underlying41 hi hz0 hz1 hz2 rfl (by decide) _ _ _ rfl (HW.out.own.alloc _) ⟨G+1+1+1,0,none⟩ 2 2 (aK [d,m0]) rfl rfl (by rw[← HSG.out];exact bf (heap_alloc_new W (.cells #[.int .u8 (d),.int .u8 (m0)] 5))) (dL _) (by decide) (by decide) (by have:=HBG.out;have:=HSG.out;simp;omega) ?_)
    intro v1 w3 hown1 hg hn;have hown2:w3.ownsRow (w.heap.size+1) 5 1 v1 3 (aK [op,d,m0]):=hown1;obtain⟨g,cap,rfl,hcv⟩:=dJ hown2 rfl (by decide);have HBW:=Nc (dM HW.out hg);clear hown1 hown2 hg hn s2 s5 t0 t1 u0 u1;go_wp2_with fail
    go_ret2
    exact⟨by rw[HE.out.1,HE.out.2,HK.out];rfl,HBW.out⟩
   ·have HK:=Nc (show bU 16 ⟨op,d,s,im,ax,bk,sz⟩=[op,16*d+s,bk,m0,m1] by simp only[bU,Int.reduceEq,if_true,if_false,HM.out.1,HM.out.2.1,HM.out.2.2.1,HM.out.2.2.2])
    go_upto_region 39 with fail
    go_region_held3 (fun w'=>w'.cell? ⟨w.heap.size,2,none⟩=some (.int .i64 s)∧w'.cell? ⟨w.heap.size,5,none⟩=some (.int .i64 bk)∧w'.cell? ⟨G+1,0,none⟩=some (.int .u8 m0)∧w'.cell? ⟨G+1,1,none⟩=some (.int .u8 m1)∧w'.cell? ⟨G+1+1,0,none⟩=some (.int .u8 x0)∧w'.cell? ⟨G+1+1,1,none⟩=some (.int .u8 x1))
     (first | with_reducible exact hS1.out | with_reducible exact bg hS1.out | with_reducible exact dh (bg hS1.out) _ | with_reducible exact bg (dh hS1.out _) | with_reducible exact hs2.out | with_reducible exact bg hs2.out)
     (first
      | (refine wp_append_own _ (.tmp 156) (.tmp 167) 41 rfl (w.heap.size+1) 5 i0 (.int .u8 0) 1 1 Tryz.underlying41 hi hz0 hz1 hz2 rfl (by decide) _ 1 (aK [op]) rfl (HW.out.own.drew.alloc _) ⟨G+1+1+1,0,none⟩ 4 4 (aK [16*d+s,bk,m0,m1]) rfl rfl (by rw[← HSG.out];exact bf (heap_alloc_new W.drew (.cells #[.int .u8 (16*d+s),.int .u8 (bk),.int .u8 (m0),.int .u8 (m1)] 5))) (dL _) (by decide) (by decide) (by have:=HBG.out;have:=HSG.out;simp;omega) ?_;intro v1 w3 hown1 hg hn;have hg2:=Nc (show(W.alloc (.cells #[.int .u8 (16*d+s),.int .u8 (bk),.int .u8 (m0),.int .u8 (m1)] 5)).grownBy w3 (some G) from⟨hg.os,hg.tape,hg.output,hg.size,hg.block⟩);have hs2:=Nc (jS hS1.out hg2.out HBG.out);have ho2:=Nc (show w3.ownsRow (w.heap.size+1) 5 1 v1 5 (aK [op,16*d+s,bk,m0,m1]) from hown1);clear hown1 hg hn)
      | (refine wp_append_own _ (.tmp 156) (.tmp 167) 41 rfl (w.heap.size+1) 5 i0 (.int .u8 0) 1 1 Tryz.underlying41 hi hz0 hz1 hz2 rfl (by decide) _ 1 (aK [op]) rfl ((HW.out.own.alloc _).drew) ⟨G+1+1+1,0,none⟩ 4 4 (aK [16*d+s,bk,m0,m1]) rfl rfl (by rw[← HSG.out];exact bf (heap_alloc_new W (.cells #[.int .u8 (16*d+s),.int .u8 (bk),.int .u8 (m0),.int .u8 (m1)] 5))) (dL _) (by decide) (by decide) (by have:=HBG.out;have:=HSG.out;simp;omega) ?_;intro v1 w3 hown1 hg hn;have hg2:=Nc (show(W.alloc (.cells #[.int .u8 (16*d+s),.int .u8 (bk),.int .u8 (m0),.int .u8 (m1)] 5)).grownBy w3 (some G) from⟨hg.os,hg.tape,hg.output,hg.size,hg.block⟩);have hs2:=Nc (jS hS1.out hg2.out HBG.out);have ho2:=Nc (show w3.ownsRow (w.heap.size+1) 5 1 v1 5 (aK [op,16*d+s,bk,m0,m1]) from hown1);clear hown1 hg hn))
    all_goals
     obtain⟨g,cap,rfl,hcv⟩:=dJ ho2.out rfl (by decide);have HBW:=Nc (dM HW.out hg2.out);clear s2 s5 t0 t1 u0 u1 ho2;go_wp2_with fail
     go_ret2
     exact⟨by rw[HE.out.1,HE.out.2,HK.out];rfl,HBW.out⟩
   ·have HK:=Nc (show bU 17 ⟨op,d,s,im,ax,bk,sz⟩=[op,s,m0,m1,x0,x1] by simp only[bU,Int.reduceEq,if_true,if_false,HM.out.1,HM.out.2.1,HM.out.2.2.1,HM.out.2.2.2])
    go_upto_region 41 with fail
    go_region_held3 (fun w'=>w'.cell? ⟨w.heap.size,2,none⟩=some (.int .i64 s)∧w'.cell? ⟨w.heap.size,5,none⟩=some (.int .i64 bk)∧w'.cell? ⟨G+1,0,none⟩=some (.int .u8 m0)∧w'.cell? ⟨G+1,1,none⟩=some (.int .u8 m1)∧w'.cell? ⟨G+1+1,0,none⟩=some (.int .u8 x0)∧w'.cell? ⟨G+1+1,1,none⟩=some (.int .u8 x1))
     (first | with_reducible exact hS1.out | with_reducible exact bg hS1.out | with_reducible exact dh (bg hS1.out) _ | with_reducible exact bg (dh hS1.out _) | with_reducible exact hs2.out | with_reducible exact bg hs2.out)
     (first
      | (refine wp_append_own _ (.tmp 171) (.tmp 187) 41 rfl (w.heap.size+1) 5 i0 (.int .u8 0) 1 1 Tryz.underlying41 hi hz0 hz1 hz2 rfl (by decide) _ 1 (aK [op]) rfl (HW.out.own.drew.alloc _) ⟨G+1+1+1,0,none⟩ 5 5 (aK [s,m0,m1,x0,x1]) rfl rfl (by rw[← HSG.out];exact bf (heap_alloc_new W.drew (.cells #[.int .u8 (s),.int .u8 (m0),.int .u8 (m1),.int .u8 (x0),.int .u8 (x1)] 5))) (dL _) (by decide) (by decide) (by have:=HBG.out;have:=HSG.out;simp;omega) ?_;intro v1 w3 hown1 hg hn;have hg2:=Nc (show(W.alloc (.cells #[.int .u8 (s),.int .u8 (m0),.int .u8 (m1),.int .u8 (x0),.int .u8 (x1)] 5)).grownBy w3 (some G) from⟨hg.os,hg.tape,hg.output,hg.size,hg.block⟩);have hs2:=Nc (jS hS1.out hg2.out HBG.out);have ho2:=Nc (show w3.ownsRow (w.heap.size+1) 5 1 v1 6 (aK [op,s,m0,m1,x0,x1]) from hown1);clear hown1 hg hn)
      | (refine wp_append_own _ (.tmp 171) (.tmp 187) 41 rfl (w.heap.size+1) 5 i0 (.int .u8 0) 1 1 Tryz.underlying41 hi hz0 hz1 hz2 rfl (by decide) _ 1 (aK [op]) rfl ((HW.out.own.alloc _).drew) ⟨G+1+1+1,0,none⟩ 5 5 (aK [s,m0,m1,x0,x1]) rfl rfl (by rw[← HSG.out];exact bf (heap_alloc_new W (.cells #[.int .u8 (s),.int .u8 (m0),.int .u8 (m1),.int .u8 (x0),.int .u8 (x1)] 5))) (dL _) (by decide) (by decide) (by have:=HBG.out;have:=HSG.out;simp;omega) ?_;intro v1 w3 hown1 hg hn;have hg2:=Nc (show(W.alloc (.cells #[.int .u8 (s),.int .u8 (m0),.int .u8 (m1),.int .u8 (x0),.int .u8 (x1)] 5)).grownBy w3 (some G) from⟨hg.os,hg.tape,hg.output,hg.size,hg.block⟩);have hs2:=Nc (jS hS1.out hg2.out HBG.out);have ho2:=Nc (show w3.ownsRow (w.heap.size+1) 5 1 v1 6 (aK [op,s,m0,m1,x0,x1]) from hown1);clear hown1 hg hn))
    all_goals
     obtain⟨g,cap,rfl,hcv⟩:=dJ ho2.out rfl (by decide);have HBW:=Nc (dM HW.out hg2.out);clear s2 s5 t0 t1 u0 u1 ho2;go_wp2_with fail
     go_ret2
     exact⟨by rw[HE.out.1,HE.out.2,HK.out];rfl,HBW.out⟩
   ·have HK:=Nc (show bU 18 ⟨op,d,s,im,ax,bk,sz⟩=[op,d,m0] by simp only[bU,Int.reduceEq,if_true,if_false,HM.out.1,HM.out.2.1,HM.out.2.2.1,HM.out.2.2.2])
    go_wp2_with (at_builtin;refine wpList_append_own _ rfl _ _ 41 rfl (w.heap.size+1) 5 i0 (.int .u8 0) 1 1 Tryz.underlying41 hi hz0 hz1 hz2 rfl (by decide) _ _ _ rfl (HW.out.own.alloc _) ⟨G+1+1+1,0,none⟩ 2 2 (aK [d,m0]) rfl rfl (by rw[← HSG.out];exact bf (heap_alloc_new W (.cells #[.int .u8 (d),.int .u8 (m0)] 5))) (dL _) (by decide) (by decide) (by have:=HBG.out;have:=HSG.out;simp;omega) ?_)
    intro v1 w3 hown1 hg hn;have hown2:w3.ownsRow (w.heap.size+1) 5 1 v1 3 (aK [op,d,m0]):=hown1;obtain⟨g,cap,rfl,hcv⟩:=dJ hown2 rfl (by decide);have HBW:=Nc (dM HW.out hg);clear hown1 hown2 hg hn s2 s5 t0 t1 u0 u1;go_wp2_with fail
    go_ret2
    exact⟨by rw[HE.out.1,HE.out.2,HK.out];rfl,HBW.out⟩
end Go.Proofs.YthkcloapiefggaaGreatDoor
