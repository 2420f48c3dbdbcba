/- The walk of CpuFetch. -/
import Derived.Test.YthkcloapiefggaaGreatDoorRqz
import Derived.Test.YthkcloapiefggaaGreatDoorCst
import Derived.Test.YthkcloapiefggaaGreatDoorSmr
import Derived.Test.YthkcloapiefggaaGreatDoorSan
namespace Go.Proofs.YthkcloapiefggaaGreatDoor.cpuFetch
set_option linter.unusedVariables false
set_option linter.unusedSimpArgs false
set_option maxRecDepth 100000
set_option maxHeartbeats 1000000
open Go.ChangeShapes Go.WideShapes Go.RowKit
theorem wpList_load_g {P:Program} {ops:Array Oper} {rest:List Oper} {op:Oper} {a:Act} {w:World} {Q:Exit→Act→World→Prop} (hw:Region.wanted op (yielded ops a.tmps)=true) (ty:TypeId) (x:Operand) (ho:op.op= .load ty x)
  (b o:Nat) (hx:a.eval x= .pointer (some ⟨b,o,none⟩)) (cs:List Value) (d:TypeDesc) (hc:w.rangeAt b o cs)
  (hu:P.underlying ty=some d) (hd:d.isRow=true) (hi:(P.info? ty).map (·.size)=some cs.length)
  (h:wpList P ops Q rest (a.put op.dst (.agg cs.toArray)) w):wpList P ops Q (op::rest) a w:=
 wpList_step fun K hK=>by rw[if_pos hw];exact wp_load_mid ty x ho b o hx cs d hc hu hd hi (hK _ _ h)
theorem run2 (V:World) (Y:Sn) (k i:Int) (c d:Nat) (p q:Option Addr) (Z:Array Value):(((V.alloc (.cells Z 40)).alloc (.cells #[.int .i64 0,.int .u16 0] 47))).heap[V.heap.size]? =some (.cells Z 40 (0,0))
  ∧((((V.alloc (.cells Z 40)).alloc (.cells #[.int .i64 0,.int .u16 0] 47))).setRow V.heap.size (snA Y p c q d)).heap[V.heap.size+1]? =some (.cells #[.int .i64 0,.int .u16 0] 47 (0,0)):=by
 have h1:=heap_old _ (.cells #[.int .i64 0,.int .u16 0] 47) _ (heap_alloc_new V (.cells Z 40))
 have h2:=heap_alloc_new (V.alloc (.cells Z 40)) (.cells #[.int .i64 0,.int .u16 0] 47)
 rw[World.size_alloc] at h2
 exact⟨h1,(setRow_other _ _ _ _ (by omega)).trans h2⟩
def twoI (o:Int) (x:ByteArray):Im:=⟨[x,x],o,0,[],[]⟩
def twoP (g:Nat):Pl:=⟨some ⟨g,0,none⟩,2,none,0,none,0⟩
def ftX (o b:Int) (x:ByteArray):Sn:={ pX (twoI o x) with bank:=b }
theorem twoI_ok {o:Int} {x:ByteArray} (ho:U16 o) (hx:x.size=4096):(twoI o x).Ok:=⟨ho.1,ho.2,Int.le_refl 0,(show(0:Int) < 65536 by decide),by intro b hb;simp[twoI] at hb;subst hb;rw[hx];decide,by intro x hx;simp[twoI] at hx,by intro x hx;simp[twoI] at hx,(show 2≤1000000000 by decide),Nat.zero_le _,Nat.zero_le _⟩
theorem two_has {V:World} {g:Nat} {o:Int} {x:ByteArray} (h:V.heap[g]? =some (.cells #[.string x,.string x] 9 (0,0))):Has V (twoP g) (twoI o x):=
 ⟨fun j v hv=>⟨g,rfl,block_cells h j v (by rw[← hv];simp[bankC,twoI])⟩,Sl.nil _ _,Sl.nil _ _⟩
theorem ftX_ok {o b:Int} {x:ByteArray} (ho:U16 o) (hb:I64 b):(ftX o b x).Ok:=
 ⟨fun _ _=>u16_0,ho,u16_0,u16_0,hb,i64_0,i64_0,i64_0,by intro x hx;simp[ftX,pX] at hx;rcases hx with rfl | rfl<;>exact⟨by decide,by decide⟩,by intro e he;simp[ftX,pX] at he⟩
theorem stepR_len (I:Im) (T:Tp) (S:Ms):(stepR I T S).1.out.length≤S.out.length+1:=by
 rw[stepR_eq]
 have h:=rok_step I T S
 cases hr:stepP I T S with
 | ok S'=>exact h.out S' hr
 | tr k i=>show S.out.length≤_;omega
set_option maxHeartbeats 20000000 in
theorem walk (w:World) (s:ByteArray) (hs:s.size≤reachBytes) (o:Int) (ho:U16 o) (b:Int) (hb:I64 b) (ht:TabF w)
  (hsan:∀ W,TabF W→Calls Tryz.prog 12 #[] W fun e w'=>e= .returned (.bool true)∧Below W.heap.size W w'):
  Calls Tryz.prog 6 #[.string s,.int .u16 o,.int .i64 b] w fun e w'=>e= .returned (.bool true)∧Below w.heap.size w w':=by
 have HPos:Hid (0 < w.heap.size):=Lib.hid (by obtain⟨_,_,h⟩:=ht;exact lt_of_block h)
 have HTab:=Lib.hid ht
 have HSan:=Lib.hid hsan
 have HO:=Lib.hid ho
 have HB:=Lib.hid hb
 have hs9:s.size≤9223372036854775807:=Nat.le_trans hs (by decide)
 have ho0:=ho.1
 have ho1:=ho.2
 have htm:o.tmod 4096=o%4096:=Int.tmod_eq_emod_of_nonneg ho0
 clear ht hsan ho hb hs
 go_enter Tryz.func6,Tryz.ntmps6
 go_wp2_with fail
 refine(HSan.out _ HTab.out).mono ?_
 rintro e w1 ⟨rfl,hb1⟩
 have HB1:=Lib.hid hb1
 clear hb1 HSan
 go_upto_region 2 with fail
 go_cut [0] from 16 to 20 (fun u wx=>∃ t:ByteArray,u= .string t∧Hid (t.size≤8)∧Hid (Below w.heap.size w wx))
 case first=>
  have hsx:(s.extract 0 8).size≤8:=by rw[ByteArray.size_extract];omega
  have HSx:=Lib.hid hsx
  clear hsx
  go_wp2_with fail
  all_goals go_meet
  all_goals first
   | exact⟨_,rfl,HSx,HB1⟩
   | exact⟨_,rfl,Lib.hid (by omega),HB1⟩
 case rest=>
 obtain⟨t,rfl,HT8,HB2⟩:=hcut
 obtain⟨w2,hw2⟩:∃ x,x=wc:=⟨_,rfl⟩
 subst hw2
 obtain⟨m,hm⟩:∃ m:Nat,o%4096=(m:Int):=⟨(o%4096).toNat,by omega⟩
 have hm4:(m:Int) < 4096:=by omega
 have hm0:(0:Int)≤(m:Int):=by omega
 have htm2:o.tmod 4096=(m:Int):=by omega
 clear htm hm hs9
 go_wp2_with fail
 refine(page_any m t _ (by omega) (by have:=HT8.out;omega)).mono ?_
 rintro e w3 ⟨rfl,hb3⟩
 have hsz:=page_size m t
 have B3:=HB2.out.trans (hb3.mono HB2.out.size)
 obtain⟨x,hx⟩:∃ x,pageB m t=x:=⟨_,rfl⟩
 rw[hx] at hsz
 rw[hx]
 have HSz:=Lib.hid hsz
 clear hx hb3 hsz htm2 hm0 hm4
 have B4:=(B3.alloc B3.size (.cells #[.string x,.string x] 9)).alloc (by have:=B3.size;simp;omega) (.cells #[.slice none 0 0,.int .u16 0,.int .u16 0,.slice none 0 0,.slice none 0 0] 33)
 have g4:=heap_old _ (.cells #[.slice none 0 0,.int .u16 0,.int .u16 0,.slice none 0 0,.slice none 0 0] 33) _ (heap_alloc_new w3 (.cells #[.string x,.string x] 9))
 have i4:=heap_alloc_new (w3.alloc (.cells #[.string x,.string x] 9)) (.cells #[.slice none 0 0,.int .u16 0,.int .u16 0,.slice none 0 0,.slice none 0 0] 33)
 rw[World.size_alloc] at i4
 have HI4:=Lib.hid i4
 have g5:(((w3.alloc (.cells #[.string x,.string x] 9)).alloc (.cells #[.slice none 0 0,.int .u16 0,.int .u16 0,.slice none 0 0,.slice none 0 0] 33)).setRow (w3.heap.size+1) #[.slice (some ⟨w3.heap.size,0,none⟩) 2 2,.int .u16 o,.int .u16 0,.slice none 0 0,.slice none 0 0]).heap[w3.heap.size]? =_:=(setRow_other _ _ _ _ (by omega)).trans g4
 have i5:=setRow_heap _ _ _ #[.slice (some ⟨w3.heap.size,0,none⟩) 2 2,.int .u16 o,.int .u16 0,.slice none 0 0,.slice none 0 0] _ _ i4
 have B5:=below_setRow B4 (show w.heap.size≤w3.heap.size+1 by have:=B3.size;omega) #[.slice (some ⟨w3.heap.size,0,none⟩) 2 2,.int .u16 o,.int .u16 0,.slice none 0 0,.slice none 0 0]
 have HG5:=Lib.hid (And.intro g5 (And.intro i5 B5))
 clear g5 i5 B5 B4 g4 i4 B3
 go_upto_region 5 with(refine wpList_store_row rfl 33 _ _ rfl (w3.heap.size+1) #[.slice (some ⟨w3.heap.size,0,none⟩) 2 2,.int .u16 o,.int .u16 0,.slice none 0 0,.slice none 0 0] rfl rfl 33 _ HI4.out infoIm (by rfl) (by simp[Value.oneCell']) ?_)
 obtain⟨W6,hW6⟩:∃ W,((w3.alloc (.cells #[.string x,.string x] 9)).alloc (.cells #[.slice none 0 0,.int .u16 0,.int .u16 0,.slice none 0 0,.slice none 0 0] 33)).setRow (w3.heap.size+1) #[.slice (some ⟨w3.heap.size,0,none⟩) 2 2,.int .u16 o,.int .u16 0,.slice none 0 0,.slice none 0 0]=W:=⟨_,rfl⟩
 rw[hW6] at HG5
 rw[hW6]
 clear hW6 HI4
 obtain⟨n3,hn3⟩:∃ n,w3.heap.size=n:=⟨_,rfl⟩
 rw[hn3] at HG5
 rw[hn3]
 clear hn3
 have HB6:=Lib.hid HG5.out.2.2
 have HR6:=Lib.hid (show W6.rangeAt (n3+1) 0 (imL (twoP n3) (twoI o x)) from range_at HG5.out.2.1 _ (fun j v hv=>by rw[← hv];simp[imL,twoP,twoI]))
 have HHas6:=Lib.hid (two_has (o:=o) HG5.out.1)
 clear HG5
 go_wp2_with (refine wpList_load_mid rfl 33 _ rfl (n3+1) 0 rfl (imL (twoP n3) (twoI o x)) _ HR6.out Tryz.underlying33 rfl infoIm ?_)
 refine(pstart_own (twoP n3) (twoI o x) W6).mono ?_
 rintro e w7 ⟨⟨g5,hg5,rfl,hs5,hbk5⟩,hb7⟩
 obtain⟨p5,hp5⟩:∃ p,some (⟨g5,0,none⟩:Addr)=p:=⟨_,rfl⟩
 rw[hp5] at hs5
 rw[hp5]
 clear hg5 hbk5 hp5
 have HN7:=Lib.hid (heap_alloc_new w7 (.cells #[.int .u16 0,.int .u16 0,.int .u16 0,.int .u16 0,.int .u16 0,.int .u16 0,.int .u16 0,.int .u16 0,.int .u16 0,.int .u16 0,.int .u16 0,.int .u16 0,.int .i64 0,.int .i64 0,.int .i64 0,.int .i64 0,.string ⟨#[]⟩,.slice none 0 0,.slice none 0 0] 40))
 have HX7:=Lib.hid (SnBx.new hs5 (c:=2) (d:=0) #[.int .u16 0,.int .u16 0,.int .u16 0,.int .u16 0,.int .u16 0,.int .u16 0,.int .u16 0,.int .u16 0,.int .u16 0,.int .u16 0,.int .u16 0,.int .u16 0,.int .i64 0,.int .i64 0,.int .i64 0,.int .i64 0,.string ⟨#[]⟩,.slice none 0 0,.slice none 0 0])
 have HB67:=Lib.hid (show Below W6.heap.size W6 ((w7.alloc (.cells #[.int .u16 0,.int .u16 0,.int .u16 0,.int .u16 0,.int .u16 0,.int .u16 0,.int .u16 0,.int .u16 0,.int .u16 0,.int .u16 0,.int .u16 0,.int .u16 0,.int .i64 0,.int .i64 0,.int .i64 0,.int .i64 0,.string ⟨#[]⟩,.slice none 0 0,.slice none 0 0] 40)).setRow w7.heap.size (snA (pX (twoI o x)) p5 2 none 0)) from below_setRow (hb7.alloc hb7.size _) hb7.size _)
 have HS7:=Lib.hid hb7.size
 clear hs5 hb7
 go_upto_region 6 with(refine wpList_store_row rfl 40 _ _ rfl w7.heap.size (snA (pX (twoI o x)) p5 2 none 0) rfl rfl 40 _ HN7.out infoSn (by rfl) (by simp[snA,Value.oneCell']) ?_)
 obtain⟨W8,hW8⟩:∃ W,(w7.alloc (.cells #[.int .u16 0,.int .u16 0,.int .u16 0,.int .u16 0,.int .u16 0,.int .u16 0,.int .u16 0,.int .u16 0,.int .u16 0,.int .u16 0,.int .u16 0,.int .u16 0,.int .i64 0,.int .i64 0,.int .i64 0,.int .i64 0,.string ⟨#[]⟩,.slice none 0 0,.slice none 0 0] 40)).setRow w7.heap.size (snA (pX (twoI o x)) p5 2 none 0)=W:=⟨_,rfl⟩
 rw[hW8] at HX7 HB67
 rw[hW8]
 obtain⟨n6,hn6⟩:∃ m,w7.heap.size=m:=⟨_,rfl⟩
 have HN6:=Lib.hid (show W6.heap.size≤n6 by rw[← hn6];exact HS7.out)
 rw[hn6] at HX7
 rw[hn6]
 clear hW8 hn6 HN7 HS7
 have c12:=HX7.out.at 12 (.int .i64 0) rfl
 have f12:=HX7.out.frz 12
 have HX9:=Lib.hid (HX7.out.set (X':=ftX o b x) 12 (.int .i64 b) (by rfl) rfl rfl)
 have HB9:=Lib.hid (setCell_below (j:=12) HB67.out HN6.out (.int .i64 b))
 go_upto_region 7 with fail
 obtain⟨W9,hW9⟩:∃ W,W8.setCell ⟨n6,12,none⟩ (.int .i64 b)=W:=⟨_,rfl⟩
 rw[hW9] at HX9 HB9
 rw[hW9]
 clear hW9 c12 f12 HX7 HB67
 obtain⟨X,hX⟩:∃ X,ftX o b x=X:=⟨_,rfl⟩
 have HXok:=Lib.hid (ftX_ok (x:=x) HO.out HB.out)
 have HXo:=Lib.hid (show(ftX o b x).out.length=0 from rfl)
 have hcX:(ftX o b x).stk.length≤2:=Nat.le_refl 2
 have HcX:=Lib.hid hcX
 have HIok:=Lib.hid (twoI_ok HO.out HSz.out)
 rw[hX] at HX9 HXok HXo HcX
 obtain⟨I,hI⟩:∃ I,twoI o x=I:=⟨_,rfl⟩
 rw[hI] at HR6 HHas6 HIok
 clear hX hcX hI HSz
 have HR9:=Lib.hid (range_next HR6.out HB9.out)
 have HHas9:=Lib.hid (HHas6.out.below HB9.out)
 have HB0:=Lib.hid (HB6.out.trans (HB9.out.mono HB6.out.size))
 clear HR6 HHas6 HB9 HB6
 obtain⟨R,hR⟩:∃ R,stepR I ⟨[],[]⟩ (loadP X)=R:=⟨_,rfl⟩
 have hlen:=stepR_len I ⟨[],[]⟩ (loadP X)
 rw[hR] at hlen
 have HLen:=Lib.hid (show(snapP R.1).out.length≤1 by show R.1.out.length≤1;have h:=HXo.out;have h2:(loadP X).out.length=X.out.length:=rfl;omega)
 have HC1:=Lib.hid (fun U (hb:Below W9.heap.size W9 U)=>cstep_any' (twoP n3) I ⟨[],[]⟩ none none 0 0 X p5 none 2 0 U HIok.out ⟨by simp,by simp,by simp,by simp⟩ HXok.out (HHas9.out.below hb) (Sl.nil _ _).slo (Sl.nil _ _).slo (HX9.out.lists.below hb) (tabF_below HPos.out HTab.out (HB0.out.trans (hb.mono HB0.out.size))) (by have:=HXo.out;omega))
 have HC2:=Lib.hid (fun U (hb:Below W9.heap.size W9 U)=>rstep_any (twoP n3) I ⟨[],[]⟩ none none 0 0 X p5 none 2 0 U HIok.out ⟨by simp,by simp,by simp,by simp⟩ HXok.out (HHas9.out.below hb) (Sl.nil _ _).slo (Sl.nil _ _).slo (HX9.out.lists.below hb) HcX.out (by have:=HXo.out;omega))
 rw[hR] at HC1 HC2
 clear hR hlen
 obtain⟨S9,k9,i9⟩:=R
 have HXr:=Lib.hid HX9.out.range
 go_wp2_with (first
  | refine wpList_load_mid rfl 33 _ rfl (n3+1) 0 rfl (imL (twoP n3) I) _ HR9.out Tryz.underlying33 rfl infoIm ?_
  | refine wpList_load_mid rfl 40 _ rfl n6 0 rfl (snL X p5 2 none 0) _ HXr.out Tryz.underlying40 rfl infoSn ?_)
 refine(HC1.out W9 (Below.refl _ _)).mono ?_
 rintro e w10 ⟨⟨⟨pA,cA,qA,dA,rfl,hsA,_,_,hcA⟩,hok⟩,hb10⟩
 have HOk:=Lib.hid hok
 have HcA:=Lib.hid hcA
 have HZ:=Lib.hid (run2 w10 (snapP S9) 0 0 cA dA pA qA #[.int .u16 0,.int .u16 0,.int .u16 0,.int .u16 0,.int .u16 0,.int .u16 0,.int .u16 0,.int .u16 0,.int .u16 0,.int .u16 0,.int .u16 0,.int .u16 0,.int .i64 0,.int .i64 0,.int .i64 0,.int .i64 0,.string ⟨#[]⟩,.slice none 0 0,.slice none 0 0])
 have HA:=Lib.hid (RunBx.new (k:=k9) (i:=i9) (c:=cA) (d:=dA) hb10 hsA #[.int .u16 0,.int .u16 0,.int .u16 0,.int .u16 0,.int .u16 0,.int .u16 0,.int .u16 0,.int .u16 0,.int .u16 0,.int .u16 0,.int .u16 0,.int .u16 0,.int .i64 0,.int .i64 0,.int .i64 0,.int .i64 0,.string ⟨#[]⟩,.slice none 0 0,.slice none 0 0] (.int .i64 0) (.int .u16 0))
 clear hsA hb10 hok hcA
 unfold trapV snV
 go_upto_region 8 with(first
  | refine wpList_store_row rfl 40 _ _ rfl w10.heap.size (snA (snapP S9) pA cA qA dA) rfl rfl 40 _ HZ.out.1 infoSn (by rfl) (by simp[snA,Value.oneCell']) ?_
  | refine wpList_store_row rfl 47 _ _ rfl (w10.heap.size+1) #[.int .i64 k9,.int .u16 i9] rfl rfl 47 _ HZ.out.2 infoTr (by rfl) (by simp[Value.oneCell']) ?_)
 obtain⟨WA,hWA⟩:∃ W,(((w10.alloc (.cells #[.int .u16 0,.int .u16 0,.int .u16 0,.int .u16 0,.int .u16 0,.int .u16 0,.int .u16 0,.int .u16 0,.int .u16 0,.int .u16 0,.int .u16 0,.int .u16 0,.int .i64 0,.int .i64 0,.int .i64 0,.int .i64 0,.string ⟨#[]⟩,.slice none 0 0,.slice none 0 0] 40)).alloc (.cells #[.int .i64 0,.int .u16 0] 47)).setRow w10.heap.size (snA (snapP S9) pA cA qA dA)).setRow (w10.heap.size+1) #[.int .i64 k9,.int .u16 i9]=W:=⟨_,rfl⟩
 rw[hWA] at HA
 rw[hWA]
 obtain⟨BA,hBA⟩:∃ n,w10.heap.size=n:=⟨_,rfl⟩
 rw[hBA] at HA
 rw[hBA]
 clear hWA hBA HZ
 have HRB:=Lib.hid (range_next HR9.out HA.out.bel)
 have HXB:=Lib.hid (HX9.out.next HA.out.bel).range
 go_wp2_with (first
  | refine wpList_load_mid rfl 33 _ rfl (n3+1) 0 rfl (imL (twoP n3) I) _ HRB.out Tryz.underlying33 rfl infoIm ?_
  | refine wpList_load_mid rfl 40 _ rfl n6 0 rfl (snL X p5 2 none 0) _ HXB.out Tryz.underlying40 rfl infoSn ?_)
 refine(HC2.out WA HA.out.bel).mono ?_
 rintro e w11 ⟨⟨pC,cC,qC,dC,rfl,hsC,_,_,hcC⟩,hb11⟩
 have HcC:=Lib.hid hcC
 have HZ:=Lib.hid (run2 w11 (snapP S9) 0 0 cC dC pC qC #[.int .u16 0,.int .u16 0,.int .u16 0,.int .u16 0,.int .u16 0,.int .u16 0,.int .u16 0,.int .u16 0,.int .u16 0,.int .u16 0,.int .u16 0,.int .u16 0,.int .i64 0,.int .i64 0,.int .i64 0,.int .i64 0,.string ⟨#[]⟩,.slice none 0 0,.slice none 0 0])
 have HC:=Lib.hid (RunBx.new (k:=k9) (i:=i9) (c:=cC) (d:=dC) hb11 hsC #[.int .u16 0,.int .u16 0,.int .u16 0,.int .u16 0,.int .u16 0,.int .u16 0,.int .u16 0,.int .u16 0,.int .u16 0,.int .u16 0,.int .u16 0,.int .u16 0,.int .i64 0,.int .i64 0,.int .i64 0,.int .i64 0,.string ⟨#[]⟩,.slice none 0 0,.slice none 0 0] (.int .i64 0) (.int .u16 0))
 clear hsC hb11 hcC
 unfold trapV snV
 go_upto_region 9 with(first
  | refine wpList_store_row rfl 40 _ _ rfl w11.heap.size (snA (snapP S9) pC cC qC dC) rfl rfl 40 _ HZ.out.1 infoSn (by rfl) (by simp[snA,Value.oneCell']) ?_
  | refine wpList_store_row rfl 47 _ _ rfl (w11.heap.size+1) #[.int .i64 k9,.int .u16 i9] rfl rfl 47 _ HZ.out.2 infoTr (by rfl) (by simp[Value.oneCell']) ?_)
 obtain⟨WC,hWC⟩:∃ W,(((w11.alloc (.cells #[.int .u16 0,.int .u16 0,.int .u16 0,.int .u16 0,.int .u16 0,.int .u16 0,.int .u16 0,.int .u16 0,.int .u16 0,.int .u16 0,.int .u16 0,.int .u16 0,.int .i64 0,.int .i64 0,.int .i64 0,.int .i64 0,.string ⟨#[]⟩,.slice none 0 0,.slice none 0 0] 40)).alloc (.cells #[.int .i64 0,.int .u16 0] 47)).setRow w11.heap.size (snA (snapP S9) pC cC qC dC)).setRow (w11.heap.size+1) #[.int .i64 k9,.int .u16 i9]=W:=⟨_,rfl⟩
 rw[hWC] at HC
 rw[hWC]
 obtain⟨BC,hBC⟩:∃ n,w11.heap.size=n:=⟨_,rfl⟩
 rw[hBC] at HC
 rw[hBC]
 clear hWC hBC HZ
 have HA:=Lib.hid (HA.out.next HC.out.bel)
 have rSA:=Lib.hid (range_at HA.out.snap (snL (snapP S9) pA cA qA dA) (fun j v hv=>by rw[← hv];simp[snL,snA]))
 have rFA:_=some (Value.int .i64 k9):=block_cells HA.out.trap 0 _ rfl
 have rGA:_=some (Value.int .u16 i9):=block_cells HA.out.trap 1 _ rfl
 have rSC:=Lib.hid (range_at HC.out.snap (snL (snapP S9) pC cC qC dC) (fun j v hv=>by rw[← hv];simp[snL,snA]))
 have rFC:_=some (Value.int .i64 k9):=block_cells HC.out.trap 0 _ rfl
 have rGC:_=some (Value.int .u16 i9):=block_cells HC.out.trap 1 _ rfl
 have heq:=eql_tr k9 i9 k9 i9
 simp only[and_self,decide_true] at heq
 have HSame:=Lib.hid (rsame_any (snapP S9) (snapP S9) pA qA cA dA pC qC cC dC WC HOk.out.sn HOk.out.sn HA.out.lists HC.out.lists HcA.out HcC.out (by have:=HLen.out;omega) (by have:=HLen.out;omega))
 have HFin:=Lib.hid (HB0.out.trans (HA.out.bel.mono HB0.out.size))
 go_wp2_with (first
  | refine wpList_load_g (by rfl) 40 _ rfl BA 0 rfl (snL (snapP S9) pA cA qA dA) _ rSA.out Tryz.underlying40 rfl infoSn ?_
  | refine wpList_load_g (by rfl) 40 _ rfl BC 0 rfl (snL (snapP S9) pC cC qC dC) _ rSC.out Tryz.underlying40 rfl infoSn ?_)
 refine HSame.out.mono ?_
 rintro e v1 ⟨⟨bb,rfl,hbb⟩,hb⟩
 obtain rfl:=hbb.2 ⟨rfl,rfl,rfl,rfl⟩
 have HFb:=Lib.hid (HFin.out.trans (hb.mono HFin.out.size))
 clear hb rSA rFA rGA rSC rFC rGC
 go_wp2_with fail
 go_ret
 exact⟨rfl,HFb.out⟩
end Go.Proofs.YthkcloapiefggaaGreatDoor.cpuFetch
