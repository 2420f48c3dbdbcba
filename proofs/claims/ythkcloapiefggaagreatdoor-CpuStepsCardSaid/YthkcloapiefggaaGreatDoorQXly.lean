import Derived.Test.YthkcloapiefggaaGreatDoorQXla
import Derived.Deep.DeepBigQuietO
namespace Go.Proofs.YthkcloapiefggaaGreatDoor
set_option linter.unusedVariables false
set_option linter.unusedSimpArgs false
set_option maxRecDepth 100000
set_option maxHeartbeats 1000000
open Go.ChangeShapes Go.WideShapes Go.RowKit
structure LdX(n0 n1 n2 n3:Int)(w W:World):Prop where
 num:W.heap[w.heap.size]? =some (.cells #[.int .i64 n0,.int .i64 n1,.int .i64 n2,.int .i64 n3] 23 (0,0))
 r1:∃ A,W.heap[w.heap.size+1]? =some (.cells A 33 (0,0))∧A.size=5
 r2:∃ A,W.heap[w.heap.size+1+1]? =some (.cells A 40 (0,0))∧A.size=19
 bel:Below w.heap.size w W
theorem Rw5.below{w W:World}{p:Option Addr}{n:Nat}(h:Rw5 w p n)(hb:Below w.heap.size w W):Rw5 W p n:=fun i hi=>by
 obtain⟨g,o,q0,q1,q2,q3,q4,e,hq⟩:=h i hi;exact⟨g,o,q0,q1,q2,q3,q4,e,fun V hV=>hq V (hb.trans (hV.mono hb.size))⟩
theorem Rw5.drop{w:World}{g o:Nat}{n j:Nat}(h:Rw5 w (some ⟨g,o,none⟩) n)(hj:j≤n):Rw5 w (some ⟨g,o+j*5,none⟩) (n-j):=fun i hi=>by
 obtain⟨g',o',q0,q1,q2,q3,q4,e,hq⟩:=h (i+j) (by omega);simp at e;obtain⟨rfl,rfl⟩:=e;refine⟨g,o+j*5,q0,q1,q2,q3,q4,rfl,fun V hV=>?_⟩;have:=hq V hV
 rwa [show o+(i+j)*5=o+j*5+i*5 by omega] at this
theorem oU(s:ByteArray)(w:World)(hs:s.size≤360):Calls Tryz.prog 24 #[.int .i64 0,.string s] w fun e w'=>(∃ b:ByteArray,e= .returned (.string b)∧b.size=4096)∧Below w.heap.size w w':=by
 refine(show Calls Tryz.prog 24 #[.int .i64 0,.string s] w _ from vU 0 s w (by decide) (by omega)).mono ?_;rintro e w' ⟨rfl,hb⟩;exact⟨⟨_,rfl,sD _ _⟩,hb⟩
def EE:Array Value:=#[.slice none 0 0,.int .u16 0,.int .u16 0,.slice none 0 0,.slice none 0 0]
def A7:Array Value:=#[.int .u16 0,.int .u16 0,.int .u16 0,.int .u16 0,.int .u16 0,.int .u16 0,.int .u16 0,.int .u16 0,.int .u16 0,.int .u16 0,.int .u16 0,.int .u16 0,.int .i64 0,.int .i64 0,.int .i64 0,.int .i64 0,.string ⟨#[]⟩,.slice none 0 0,.slice none 0 0]
theorem LdX.new(n0 n1 n2 n3:Int)(w:World):LdX n0 n1 n2 n3 w (((w.alloc (.cells #[.int .i64 n0,.int .i64 n1,.int .i64 n2,.int .i64 n3] 23)).alloc (.cells EE 33)).alloc (.cells A7 40)):=by
 have h1:=heap_alloc_new (w.alloc (.cells #[.int .i64 n0,.int .i64 n1,.int .i64 n2,.int .i64 n3] 23)) (.cells EE 33);rw[World.size_alloc] at h1;have h2:=heap_alloc_new ((w.alloc (.cells #[.int .i64 n0,.int .i64 n1,.int .i64 n2,.int .i64 n3] 23)).alloc (.cells EE 33)) (.cells A7 40);rw[World.size_alloc,World.size_alloc] at h2;exact⟨aj _ _ _ (aj _ _ _ (heap_alloc_new w _)),⟨_,aj _ _ _ h1,rfl⟩,⟨_,h2,rfl⟩,(((Below.refl _ w).alloc (Nat.le_refl _) _).alloc (by simp) _).alloc (by simp;omega) _⟩
theorem LdX.next{n0 n1 n2 n3:Int}{w W V:World}(h:LdX n0 n1 n2 n3 w W)(hb:Below W.heap.size W V):LdX n0 n1 n2 n3 w V:=by
 obtain⟨A,a1,a2⟩:=h.r1;obtain⟨B,b1,b2⟩:=h.r2;exact⟨af h.num hb,⟨A,af a1 hb,a2⟩,⟨B,af b1 hb,b2⟩,h.bel.trans (hb.mono h.bel.size)⟩
theorem mO:(Tryz.prog.info? 33).map (·.size)=some 5:=by kernel_rfl
theorem mM:(Tryz.prog.info? 40).map (·.size)=some 19:=by kernel_rfl
theorem KU(s:Int)(w:World):Calls Tryz.prog 23 #[.int .u32 s,.int .i64 4096] w fun e w'=>(∃ b:ByteArray,e= .returned (.string b)∧b.size=4096)∧Below w.heap.size w w':=y5 s 4096 w (by decide)
theorem KT(s:Int)(w:World):Calls Tryz.prog 23 #[.int .u32 s,.int .i64 8192] w fun e w'=>(∃ b:ByteArray,e= .returned (.string b)∧b.size=8192)∧Below w.heap.size w w':=y5 s 8192 w (by decide)
def im3(s:Nat)(ve:Int):Array Value:=#[.slice (some ⟨s,0,none⟩) 3 3,.int .u16 0,.int .u16 ve,.slice none 0 0,.slice none 0 0]
structure LdI(n0 n1 n2 n3:Int)(w W:World)(g s:Nat)(a b c:ByteArray)(ve:Int):Prop where
 x:LdX n0 n1 n2 n3 w W
 box:W.heap[g]? =some (.cells (im3 s ve) 33 (0,0))
 bks:W.heap[s]? =some (.cells #[.string a,.string b,.string c] 9 (0,0))
 hi:w.heap.size+3≤g
 sa:a.size=4096
 sb:b.size=4096
 sc:c.size=4096
 v0:0≤ve
 v1:ve < 65536
theorem LdX.hi{n0 n1 n2 n3:Int}{w W:World}(h:LdX n0 n1 n2 n3 w W):w.heap.size+3≤W.heap.size:=by
 obtain⟨B,b1,_⟩:=h.r2;have:=lt_of_block b1;omega
theorem LdX.row{n0 n1 n2 n3:Int}{w W:World}(h:LdX n0 n1 n2 n3 w W){g:Nat}(hg:w.heap.size+3≤g)(A:Array Value):LdX n0 n1 n2 n3 w (W.setRow g A):=by
 obtain⟨B,b1,b2⟩:=h.r1;obtain⟨C,c1,c2⟩:=h.r2;exact⟨(setRow_other W g _ A (by omega)).trans h.num,⟨B,(setRow_other W g _ A (by omega)).trans b1,b2⟩,⟨C,(setRow_other W g _ A (by omega)).trans c1,c2⟩,below_setRow h.bel (by omega) A⟩
theorem LdI.next{n0 n1 n2 n3:Int}{w W V:World}{g s:Nat}{a b c:ByteArray}{ve:Int}(h:LdI n0 n1 n2 n3 w W g s a b c ve)(hb:Below W.heap.size W V):LdI n0 n1 n2 n3 w V g s a b c ve:=
 ⟨h.x.next hb,af h.box hb,af h.bks hb,h.hi,h.sa,h.sb,h.sc,h.v0,h.v1⟩
theorem LdX.img{n0 n1 n2 n3:Int}{w W:World}(h:LdX n0 n1 n2 n3 w W){a b c:ByteArray}(ha:a.size=4096)(hb:b.size=4096)(hc:c.size=4096):
  LdI n0 n1 n2 n3 w (((W.alloc (.cells #[.string a,.string b,.string c] 9)).alloc (.cells #[.slice none 0 0,.int .u16 0,.int .u16 0,.slice none 0 0,.slice none 0 0] 33)).setRow (W.heap.size+1) (im3 W.heap.size 0)) (W.heap.size+1) W.heap.size a b c 0
  ∧((W.alloc (.cells #[.string a,.string b,.string c] 9)).alloc (.cells #[.slice none 0 0,.int .u16 0,.int .u16 0,.slice none 0 0,.slice none 0 0] 33)).heap[W.heap.size+1]? =some (.cells #[.slice none 0 0,.int .u16 0,.int .u16 0,.slice none 0 0,.slice none 0 0] 33 (0,0)):=by
 have e1:=aj _ (.cells #[.slice none 0 0,.int .u16 0,.int .u16 0,.slice none 0 0,.slice none 0 0] 33) _ (heap_alloc_new W (.cells #[.string a,.string b,.string c] 9));have e2:=heap_alloc_new (W.alloc (.cells #[.string a,.string b,.string c] 9)) (.cells #[.slice none 0 0,.int .u16 0,.int .u16 0,.slice none 0 0,.slice none 0 0] 33);rw[World.size_alloc] at e2;have h2:=(h.next ((Below.refl _ W).alloc (Nat.le_refl _) (.cells #[.string a,.string b,.string c] 9))).next ((Below.refl _ _).alloc (Nat.le_refl _) (.cells #[.slice none 0 0,.int .u16 0,.int .u16 0,.slice none 0 0,.slice none 0 0] 33));have hh:=h.hi;exact⟨⟨h2.row (by omega) _,setRow_heap _ _ _ _ _ _ e2,(setRow_other _ _ _ _ (by omega)).trans e1,by omega,ha,hb,hc,by decide,by decide⟩,e2⟩
theorem LdI.vec{n0 n1 n2 n3:Int}{w W:World}{g s:Nat}{a b c:ByteArray}{ve:Int}(h:LdI n0 n1 n2 n3 w W g s a b c ve):LdI n0 n1 n2 n3 w (W.setCell ⟨g,2,none⟩ (.int .u16 700)) g s a b c 700:=by
 have e:=setCell_eq_setRow W g 2 _ _ _ (.int .u16 700) h.box;have hne:s≠g:=fun e=>by
  have h1:=h.bks;rw[e,h.box] at h1;injection h1 with h1;injection h1 with _ h1;exact absurd h1 (by decide)
 rw[e];exact⟨h.x.row h.hi _,setRow_heap _ _ _ _ _ _ h.box,(setRow_other _ _ _ _ hne).trans h.bks,h.hi,h.sa,h.sb,h.sc,by decide,by decide⟩
def imX(a b c:ByteArray)(ve:Int):Im:=⟨[a,b,c],0,ve,[],[]⟩
def plX(s:Nat):Pl:=⟨some ⟨s,0,none⟩,3,none,0,none,0⟩
theorem LdI.ok{n0 n1 n2 n3:Int}{w W:World}{g s:Nat}{a b c:ByteArray}{ve:Int}(h:LdI n0 n1 n2 n3 w W g s a b c ve):(imX a b c ve).Ok:=
 ⟨Int.le_refl 0,(show(0:Int) < 65536 by decide),h.v0,h.v1,by
  intro x hx;simp[imX] at hx;rcases hx with rfl|rfl|rfl
  ·rw[h.sa];decide
  ·rw[h.sb];decide
  ·rw[h.sc];decide,by simp[imX],by simp[imX],(show 3≤1000000000 by decide),Nat.zero_le _,Nat.zero_le _⟩
theorem LdI.has{n0 n1 n2 n3:Int}{w W:World}{g s:Nat}{a b c:ByteArray}{ve:Int}(h:LdI n0 n1 n2 n3 w W g s a b c ve):Has W (plX s) (imX a b c ve):=
 ⟨fun j x hx=>⟨s,rfl,ae h.bks j x (by rw[← hx];simp[imX,sV])⟩,Sl.nil _ _,Sl.nil _ _⟩
theorem and7(n:Int):0≤bits .and .i64 n 7∧bits .and .i64 n 7≤7:=by
 have h:(BitVec.ofInt 64 n &&& BitVec.ofInt 64 7).toNat≤7:=by rw[BitVec.toNat_and];exact Nat.le_trans Nat.and_le_right (by decide)
 show 0≤IntKind.i64.wrap ((BitVec.ofInt 64 n &&& BitVec.ofInt 64 7).toNat:Int)∧IntKind.i64.wrap ((BitVec.ofInt 64 n &&& BitVec.ofInt 64 7).toNat:Int)≤7;rw[IntKind.wrap_i64];omega
def Lt(e:Ending)(w':World):Prop:=∃ (s:Nat) (a b d:ByteArray) (ve:Int) (X:Sn) (p:Option Addr) (c:Nat),e= .returned (.tuple #[imV (plX s) (imX a b d ve),snV X p c none 0])∧(imX a b d ve).Ok∧X.Ok∧w'.heap[s]? =some (.cells #[.string a,.string b,.string d] 9 (0,0))∧SnH w' X p none∧X.stk.length≤9∧X.stk.length≤c∧X.out=[]∧X.ram.size=8192
theorem LW{V:World}{s:Nat}{a b d:ByteArray}{ve:Int}(h:V.heap[s]? =some (.cells #[.string a,.string b,.string d] 9 (0,0))):Has V (plX s) (imX a b d ve):=
 ⟨fun j x hx=>⟨s,rfl,ae h j x (by rw[← hx];simp[imX,sV])⟩,Sl.nil _ _,Sl.nil _ _⟩

set_option maxHeartbeats 4000000 in
theorem Gh(p:Option Addr)(n c:Nat)(n0 n1 n2 n3:Int)(w:World)(h:Rw5 w p n)(hn:n≤9223372036854775807)(hc:n≤c):
  Calls Tryz.prog 31 #[.slice p n c,.agg #[.int .i64 n0,.int .i64 n1,.int .i64 n2,.int .i64 n3]] w fun e w'=>Lt e w'∧Below w.heap.size w w':=by
 have HR:=Nc h;have HC:=Nc hc;have hn1:(n:Int)≤9223372036854775807:=by omega
 clear h hn hc;go_enter Tryz.func31,Tryz.ntmps31
 go_upto_region 1 with fail
 obtain⟨W0,hW0⟩:∃ W,((w.alloc (.cells #[.int .i64 n0,.int .i64 n1,.int .i64 n2,.int .i64 n3] 23)).alloc (.cells #[.slice none 0 0,.int .u16 0,.int .u16 0,.slice none 0 0,.slice none 0 0] 33)).alloc (.cells #[.int .u16 0,.int .u16 0,.int .u16 0,.int .u16 0,.int .u16 0,.int .u16 0,.int .u16 0,.int .u16 0,.int .u16 0,.int .u16 0,.int .u16 0,.int .u16 0,.int .i64 0,.int .i64 0,.int .i64 0,.int .i64 0,.string ⟨#[]⟩,.slice none 0 0,.slice none 0 0] 40)=W:=⟨_,rfl⟩;have H0:=LdX.new n0 n1 n2 n3 w;unfold EE A7 at H0;rw[hW0] at H0;rw[hW0];have HX:=Nc H0;obtain⟨m,hm⟩:∃ m,w.heap.size=m:=⟨_,rfl⟩;rw[hm];have HN:=Nc hm;clear hW0 hm H0;go_upto_region 2 with fail
 go_wp2_with fail
 go_loopw [6,7] (fun s i wr=>∃ (k:Nat) (b:ByteArray),k≤8∧b.size=2*k∧s= .string b∧i= .int .i64 k∧Hid (LdX n0 n1 n2 n3 w wr)) (fun _ i _=>8-(intOf i).toNat)
 case atStart=>exact⟨0,⟨#[]⟩,Nat.zero_le _,rfl,rfl,rfl,HX⟩
 case round=>
  obtain⟨k,b,hk,hb,rfl,rfl,HK⟩:=hrel;have HBZ:=Nc hb;clear hb;by_cases h2:k < 8
  ·have h2':(k:Int) < 8:=by omega
   have c1:wr.cell? ⟨m,1,none⟩=some (.int .i64 n1):=by rw[← HN.out];exact ae HK.out.num 1 _ rfl
   go_wp2_with fail
   refine(Fp _ _ (fM _).1 (fM _).2).mono ?_;rintro e w2 ⟨⟨b2,rfl,hb2⟩,hbl⟩;have HK2:=Nc (HK.out.next hbl);have HZ:=Nc (show(b++b2).size=2*(k+1) from(by rw[ByteArray.size_append];have:=HBZ.out;omega));have hlt:¬ 9223372036854775807 < b.size+b2.size:=(by have:=HBZ.out;omega);clear hbl hb2 c1;go_wp2_with fail
   go_roundw
   case rel=>exact⟨k+1,b++b2,by omega,HZ.out,rfl,by go_num,HK2⟩
   case measure=>simp[intOf];omega
  ·have h2':¬ (k:Int) < 8:=by omega
   obtain rfl:k=8:=by omega
   go_wp2_with fail
   refine(pg p n c _ (HR.out.below HK.out.bel) (by omega)).mono ?_;rintro e w1 ⟨⟨s1,rfl,hs1⟩,hbl⟩;have HK1:=Nc (HK.out.next hbl);have HS1:=Nc hs1;clear hbl hs1 HK;go_wp2_with fail
   refine(oU s1 _ HS1.out).mono ?_;rintro e w2 ⟨⟨f0,rfl,hf0⟩,hbl⟩;have HK2:=Nc (HK1.out.next hbl);have HF0:=Nc hf0;clear hbl hf0 HK1;go_upto_region 7 with fail
   go_cut [8] from 31 to 44 (fun v wx=>(∃ f:ByteArray,v= .string f∧f.size=4096)∧Hid (LdX n0 n1 n2 n3 w wx))
   case first=>
    have e0:f0.size=4096:=HF0.out;have e1:b.size=16:=HBZ.out;have hmo:Tryz.prog.follows .mixedOrders=true:=by kernel_rfl
    go_big_quiet_o (fail)
    go_wp2
    go_meet
    exact⟨⟨_,rfl,by simp only[ByteArray.size_append,ByteArray.size_extract];rw[e0,e1];rfl⟩,Nc (HK2.out.next (below_drewN (Below.refl _ _)))⟩
   case rest=>
    obtain⟨⟨f,rfl,hf⟩,HK3⟩:=hcut;have HF:=Nc hf;clear hf HF0 HS1 HK2;go_upto_region 8 with fail
    go_cut [9] from 45 to 51 (fun v wx=>(∃ f:ByteArray,v= .string f∧f.size=4096)∧Hid (LdX n0 n1 n2 n3 w wx))
    case first=>
     by_cases hn20:n≤20
     ·have hn20':(n:Int)≤20:=by omega
      have hmin:(if 20 < (n:Int) then(20:Int) else n)=n:=if_neg (by omega);rcases Nat.eq_or_lt_of_le HC.out with hcn|hcn
      ·subst hcn
       go_wp2_with fail
       refine(pg _ 0 _ _ (fun i hi=>absurd hi (Nat.not_lt_zero _)) (Nat.zero_le _)).mono ?_;rintro e w3 ⟨⟨s1,rfl,hs1⟩,hbl⟩;have HK1:=Nc (HK3.out.next hbl);have HS1:=Nc hs1;clear hbl hs1;go_wp2_with fail
       refine(oU s1 _ HS1.out).mono ?_;rintro e w4 ⟨⟨f0,rfl,hf0⟩,hbl⟩;have HK2:=Nc (HK1.out.next hbl);have HF0:=Nc hf0;clear hbl hf0 HK1;go_wp2_with fail
       go_meet
       exact⟨⟨_,rfl,HF0.out⟩,HK2⟩
      ·have hcn':¬ c=n:=by omega
       clear hcn;go_wp2_with fail
       refine(pg _ 0 _ _ (fun i hi=>absurd hi (Nat.not_lt_zero _)) (Nat.zero_le _)).mono ?_;rintro e w3 ⟨⟨s1,rfl,hs1⟩,hbl⟩;have HK1:=Nc (HK3.out.next hbl);have HS1:=Nc hs1;clear hbl hs1;go_wp2_with fail
       refine(oU s1 _ HS1.out).mono ?_;rintro e w4 ⟨⟨f0,rfl,hf0⟩,hbl⟩;have HK2:=Nc (HK1.out.next hbl);have HF0:=Nc hf0;clear hbl hf0 HK1;go_wp2_with fail
       go_meet
       exact⟨⟨_,rfl,HF0.out⟩,HK2⟩
     ·have hn20':¬ (n:Int)≤20:=by omega
      have hmin:(if 20 < (n:Int) then(20:Int) else n)=20:=if_pos (by omega);have hc20:¬ c=20:=by have:=HC.out;omega
      obtain⟨g,o,x0,x1,x2,x3,x4,rfl,_⟩:=HR.out 0 (by omega);go_wp2_with fail
      refine(pg _ (n-20) _ _ (by have:=Rw5.drop (HR.out.below HK3.out.bel) (show 20≤n by omega);exact this) (by omega)).mono ?_;rintro e w3 ⟨⟨s1,rfl,hs1⟩,hbl⟩;have HK1:=Nc (HK3.out.next hbl);have HS1:=Nc hs1;clear hbl hs1;go_wp2_with fail
      refine(oU s1 _ HS1.out).mono ?_;rintro e w4 ⟨⟨f0,rfl,hf0⟩,hbl⟩;have HK2:=Nc (HK1.out.next hbl);have HF0:=Nc hf0;clear hbl hf0 HK1;go_wp2_with fail
      go_meet
      exact⟨⟨_,rfl,HF0.out⟩,HK2⟩
    case rest=>
     obtain⟨⟨f2,rfl,hf2⟩,HK4⟩:=hcut;have HF2:=Nc hf2;clear hf2 HK3;go_upto_region 9 with fail
     go_cut [9] from 52 to 61 (fun v wx=>(∃ f:ByteArray,v= .string f∧f.size=4096)∧Hid (LdX n0 n1 n2 n3 w wx))
     case first=>
      have e0:f2.size=4096:=HF2.out;have e1:b.size=16:=HBZ.out;have hmo:Tryz.prog.follows .mixedOrders=true:=by kernel_rfl
      go_big_quiet_o (fail)
      go_wp2
      go_meet
      exact⟨⟨_,rfl,by simp only[ByteArray.size_append,ByteArray.size_extract];rw[e0,e1];rfl⟩,Nc (HK4.out.next (below_drewN (Below.refl _ _)))⟩
     case rest=>
      obtain⟨⟨f3,rfl,hf3⟩,HK5⟩:=hcut;have HF3:=Nc hf3;clear hf3 HK4;have c2:wc.cell? ⟨m,2,none⟩=some (.int .i64 n2):=by rw[← HN.out];exact ae HK5.out.num 2 _ rfl
      go_wp2_with fail
      refine(KU _ _).mono ?_;rintro e w5 ⟨⟨f4,rfl,hf4⟩,hbl⟩;have HI:=Nc ((HK5.out.next hbl).img HF.out HF3.out hf4);clear c2 hbl hf4 HK5;go_upto_region 11 with(refine wpList_store_row rfl 33 _ _ rfl (w5.heap.size+1) (im3 w5.heap.size 0) rfl rfl 33 _ HI.out.2 dP (by rfl) (by simp[im3,Value.oneCell']) ?_)
      have HI1:=Nc HI.out.1;clear HI;have HI2:=HI1.out;obtain⟨V1,hV1⟩:∃ V,(((w5.alloc (.cells #[.string f,.string f3,.string f4] 9)).alloc (.cells #[.slice none 0 0,.int .u16 0,.int .u16 0,.slice none 0 0,.slice none 0 0] 33)).setRow (w5.heap.size+1) (im3 w5.heap.size 0))=V:=⟨_,rfl⟩;rw[hV1] at HI2;rw[hV1];obtain⟨s,hs⟩:∃ s,w5.heap.size=s:=⟨_,rfl⟩;rw[hs] at HI2;rw[hs];have HJ:=Nc HI2;clear HI2 HI1 hV1 hs;have c0:V1.cell? ⟨m,0,none⟩=some (.int .i64 n0):=by rw[← HN.out];exact ae HJ.out.x.num 0 _ rfl
      obtain⟨v,hv⟩:∃ v,bits .and .i64 n0 1=v:=⟨_,rfl⟩;go_upto_if 73 with fail
      go_cut [10] from 74 to 74 (fun v wx=>v= .pointer (some ⟨s+1,0,none⟩)∧∃ ve,Hid (LdI n0 n1 n2 n3 w wx (s+1) s f f3 f4 ve))
      case first=>
       by_cases hv1:v=1
       ·have HK:=Nc HJ.out.vec
        have cv:=ae HJ.out.box 2 _ rfl;have fv:=frozen_of_row V1 (s+1) 2 _ _ HJ.out.box;go_wp2_with fail
        go_meet
        exact⟨rfl,700,HK⟩
       ·go_wp2_with fail
        go_meet
        exact⟨rfl,0,HJ⟩
      case rest=>
       obtain⟨rfl,ve,HV⟩:=hcut;obtain⟨W1,hW1⟩:∃ x,x=wc:=⟨_,rfl⟩;subst hW1;have HR0:=Nc (show W1.rangeAt (s+1) 0 [.slice (some ⟨s,0,none⟩) 3 3,.int .u16 0,.int .u16 ve,.slice none 0 0,.slice none 0 0] from aH HV.out.box _ (fun j v hv=>by rw[← hv];simp[im3]));have HSt:=Nc (xw (plX s) (imX f f3 f4 ve) W1);clear c0 hv HJ;go_wp2_with (refine wpList_load_mid rfl 33 _ rfl (s+1) 0 rfl [.slice (some ⟨s,0,none⟩) 3 3,.int .u16 0,.int .u16 ve,.slice none 0 0,.slice none 0 0] _ HR0.out Tryz.underlying33 rfl mO ?_)
       refine HSt.out.mono ?_;rintro e w6 ⟨⟨gs,hgs,rfl,hsn,hbk⟩,hbl⟩;have HT0:=Nc (LdT.new (I:=imX f f3 f4 ve) hbl hgs hbk (IP rfl) #[.int .u16 0,.int .u16 0,.int .u16 0,.int .u16 0,.int .u16 0,.int .u16 0,.int .u16 0,.int .u16 0,.int .u16 0,.int .u16 0,.int .u16 0,.int .u16 0,.int .i64 0,.int .i64 0,.int .i64 0,.int .i64 0,.string ⟨#[]⟩,.slice none 0 0,.slice none 0 0]);have HZ:=Nc (heap_alloc_new w6 (.cells #[.int .u16 0,.int .u16 0,.int .u16 0,.int .u16 0,.int .u16 0,.int .u16 0,.int .u16 0,.int .u16 0,.int .u16 0,.int .u16 0,.int .u16 0,.int .u16 0,.int .i64 0,.int .i64 0,.int .i64 0,.int .i64 0,.string ⟨#[]⟩,.slice none 0 0,.slice none 0 0] 40));clear hgs hsn hbk hbl HSt HR0;go_upto_region 14 with(refine wpList_store_row rfl 40 _ _ rfl w6.heap.size (snA (pX (imX f f3 f4 ve)) (some ⟨gs,0,none⟩) 2 none 0) rfl rfl 40 _ HZ.out aU (by rfl) (by simp[snA,Value.oneCell']) ?_)
       have HT1:=HT0.out;obtain⟨V2,hV2⟩:∃ V,(w6.alloc (.cells #[.int .u16 0,.int .u16 0,.int .u16 0,.int .u16 0,.int .u16 0,.int .u16 0,.int .u16 0,.int .u16 0,.int .u16 0,.int .u16 0,.int .u16 0,.int .u16 0,.int .i64 0,.int .i64 0,.int .i64 0,.int .i64 0,.string ⟨#[]⟩,.slice none 0 0,.slice none 0 0] 40)).setRow w6.heap.size (snA (pX (imX f f3 f4 ve)) (some ⟨gs,0,none⟩) 2 none 0)=V:=⟨_,rfl⟩;rw[hV2] at HT1;rw[hV2];obtain⟨g,hg⟩:∃ g,w6.heap.size=g:=⟨_,rfl⟩;rw[hg] at HT1;rw[hg];obtain⟨X,hX⟩:∃ X,pX (imX f f3 f4 ve)=X:=⟨_,rfl⟩;have hXl:X.stk.length=2:=by rw[← hX];rfl
       rw[hX] at HT1;have HT:=Nc HT1;have HXl:=Nc hXl;clear HT1 HT0 HZ hV2 hg hX hXl;have HNum:=Nc (fun V (hb:Below W1.heap.size W1 V)=>show V.heap[m]? =some (.cells #[.int .i64 n0,.int .i64 n1,.int .i64 n2,.int .i64 n3] 23 (0,0)) from by rw[← HN.out];exact(HV.out.next hb).x.num)
       try simp only[Act.put]
       go_cut [11] from 77 to 81 (fun v wx=>v= .pointer (some ⟨g,0,none⟩)∧∃ X:Sn,X.stk.length=2∧Hid (LdT W1 g X (some ⟨gs,0,none⟩) 2 wx))
       case first=>
        have cn:=ae (HNum.out _ HT.out.bel) 3 _ rfl;go_wp2_with fail
        refine(KT _ _).mono ?_;rintro e w7 ⟨⟨f5,rfl,hf5⟩,hbl⟩;have HT2:=Nc (HT.out.next hbl);have HT3:=Nc (HT2.out.mY f5 hf5);have k16:=HT2.out.at 16 _ rfl;have r16:=HT2.out.frz 16;clear cn hbl hf5;go_wp2_with fail
        go_meet
        exact⟨rfl,{X with ram:=f5},HXl.out,HT3⟩
       case rest=>
       obtain⟨rfl,X,hXl,HT⟩:=hcut;have HXl:=Nc hXl;clear hXl;go_wp2_with fail
       go_loopw [12] (fun vk wr=>∃ (k:Nat) (X:Sn),k≤8∧vk= .int .i64 k∧X.stk.length=2∧Hid (LdT W1 g X (some ⟨gs,0,none⟩) 2 wr)) (fun vk _=>8-(intOf vk).toNat)
       case atStart=>exact⟨0,X,Nat.zero_le _,rfl,HXl.out,HT⟩
       case round=>
       obtain⟨k,X,hk,rfl,hXl,HT⟩:=hrel;have HXl:=Nc hXl;clear hXl;by_cases h8:k < 8
       ·have h8':(k:Int) < 8:=by omega
        have hk0:(0:Int)≤(k:Int):=by omega
        obtain⟨j,hj,hj4⟩:∃ j:Nat,(k:Int).tmod 4=(j:Int)∧j < 4:=⟨k%4,by rw[Int.tmod_eq_emod_of_nonneg hk0];omega,by omega⟩;have hj4':(j:Int) < 4:=by omega
        obtain⟨y,cy⟩:∃ y,wr.cell? ⟨m,j,none⟩=some (.int .i64 y):=by
         have:=HNum.out _ HT.out.bel
         rcases(show j=0∨j=1∨j=2∨j=3 by omega) with rfl|rfl|rfl|rfl
         ·exact⟨n0,ae this 0 _ rfl⟩
         ·exact⟨n1,ae this 1 _ rfl⟩
         ·exact⟨n2,ae this 2 _ rfl⟩
         ·exact⟨n3,ae this 3 _ rfl⟩
        have HP:=Nc (fun y (hy:U16 y)=>HT.out.reg k h8 y hy);have kk:wr.cell? ⟨g,k,none⟩=some (.int .u16 (X.r k)):=HT.out.at k _ (by rcases(show k=0∨k=1∨k=2∨k=3∨k=4∨k=5∨k=6∨k=7 by omega) with rfl | rfl | rfl | rfl | rfl | rfl | rfl | rfl<;>rfl);have rk:=HT.out.frz k;go_wp2_with fail
        go_roundw
        case rel=>exact⟨k+1,{X with r:=upd X.r k _},by omega,by go_num,HXl.out,Nc (HP.out _ (fM _))⟩
        case measure=>simp[intOf];omega
       have h8':¬ (k:Int) < 8:=by omega
       obtain rfl:k=8:=by omega
       go_upto_region 19 with fail
       go_cut [11] from 98 to 104 (fun v wx=>v= .pointer (some ⟨g,0,none⟩)∧∃ X:Sn,X.stk.length=2∧Hid (LdT W1 g X (some ⟨gs,0,none⟩) 2 wx))
       case first=>
        have cn:=ae (HNum.out _ HT.out.bel) 1 _ rfl;have kk:=HT.out.at 5 _ rfl;have rk:=HT.out.frz 5;go_wp2_with fail
        go_meet
        exact⟨rfl,{X with r:=upd X.r 5 _},HXl.out,Nc (HT.out.reg 5 (by decide) _ (fM _))⟩
       case rest=>
       obtain⟨rfl,X,hXl,HT⟩:=hcut;have HXl:=Nc hXl;clear hXl;go_upto_region 20 with fail
       go_cut [11] from 105 to 112 (fun v wx=>v= .pointer (some ⟨g,0,none⟩)∧∃ X:Sn,X.stk.length=2∧Hid (LdT W1 g X (some ⟨gs,0,none⟩) 2 wx))
       case first=>
        have cn:=ae (HNum.out _ HT.out.bel) 2 _ rfl;have kk:=HT.out.at 6 _ rfl;have rk:=HT.out.frz 6;go_wp2_with fail
        go_meet
        exact⟨rfl,{X with r:=upd X.r 6 _},HXl.out,Nc (HT.out.reg 6 (by decide) _ (fM _))⟩
       case rest=>
       obtain⟨rfl,X,hXl,HT⟩:=hcut;have HXl:=Nc hXl;clear hXl;go_upto_region 21 with fail
       go_cut [11] from 113 to 118 (fun v wx=>v= .pointer (some ⟨g,0,none⟩)∧∃ X:Sn,X.stk.length=2∧Hid (LdT W1 g X (some ⟨gs,0,none⟩) 2 wx))
       case first=>
        have cn:=ae (HNum.out _ HT.out.bel) 3 _ rfl;have kk:=HT.out.at 11 _ rfl;have rk:=HT.out.frz 11;go_wp2_with fail
        go_meet
        exact⟨rfl,{X with f:=IntKind.u16.wrap _},HXl.out,Nc (HT.out.cF _ (fM _))⟩
       case rest=>
       obtain⟨rfl,X,hXl,HT⟩:=hcut;have HXl:=Nc hXl;clear hXl;go_upto_region 22 with fail
       go_cut [11] from 119 to 120 (fun v wx=>v= .pointer (some ⟨g,0,none⟩)∧∃ X:Sn,X.stk.length=2∧Hid (LdT W1 g X (some ⟨gs,0,none⟩) 2 wx))
       case first=>
        have kk:=HT.out.at 12 _ rfl;have rk:=HT.out.frz 12;go_wp2_with fail
        go_meet
        exact⟨rfl,{X with aF:=1},HXl.out,Nc (HT.out.cB 1 ⟨by decide,by decide⟩)⟩
       case rest=>
       obtain⟨rfl,X,hXl,HT⟩:=hcut;have HXl:=Nc hXl;clear hXl;obtain⟨i0,hi,hz0,hz1,hz2⟩:=info_parts vZ;obtain⟨t,ht⟩:∃ t:Nat,bits .and .i64 n0 7=(t:Int):=⟨(bits .and .i64 n0 7).toNat,by have:=(and7 n0).1;omega⟩;have ht7:t≤7:=by have:=(and7 n0).2;omega
       go_wp2_with fail
       go_loopw [13] (fun vk wr=>∃ (k:Nat) (X:Sn) (p:Option Addr) (c:Nat),k≤t∧vk= .int .i64 k∧X.stk.length=2+k∧Hid (LdT W1 g X p c wr)) (fun vk _=>t-(intOf vk).toNat)
       case atStart=>exact⟨0,X,_,_,Nat.zero_le _,rfl,HXl.out,HT⟩
       case round=>
       obtain⟨k,X,p5,c5,hk,rfl,hXl,HT⟩:=hrel;have HXl:=Nc hXl;clear hXl;have cn:wr.cell? ⟨m,0,none⟩=some (.int .i64 n0):=ae (HNum.out _ HT.out.bel) 0 _ rfl;by_cases h8:k < t
       ·have h8':(k:Int) < t:=by omega
        have hk0:(0:Int)≤(k:Int):=by omega
        have cn1:wr.cell? ⟨m,1,none⟩=some (.int .i64 n1):=ae (HNum.out _ HT.out.bel) 1 _ rfl;have k17:wr.cell? ⟨g,17,none⟩=some (.slice p5 X.stk.length c5):=HT.out.at 17 _ rfl;have hls:=HT.out.bel.size;go_wp2_with (at_builtin;refine wpList_append_own _ rfl _ _ 37 rfl W1.heap.size 29 i0 (.int .u16 0) 1 2 Tryz.underlying37 hi hz0 hz1 hz2 rfl (by decide) _ _ _ rfl (HT.out.own.alloc _) ⟨wr.heap.size,0,none⟩ 1 1 [.int .u16 (IntKind.u16.wrap (wrap64 (n1+k)))] rfl rfl (bf (heap_alloc_new wr (.cells #[.int .u16 (IntKind.u16.wrap (wrap64 (n1+k)))] 29))) (by simp[Value.oneCell']) (by have:=HXl.out;simp only[maxLen];omega) (by have:=HXl.out;omega) (by rw[World.size_alloc];omega) ?_)
        intro v3 w3 hown hgb hnn;obtain⟨q,d,rfl,hbx,hT2⟩:=HT.out.app (fM _) hown hgb;have HT2:=Nc hT2;have b17:=ae hbx 17 _ rfl;have f17:=frozen_of_row w3 g 17 _ _ hbx;clear hown hgb hnn hbx hT2 k17 cn cn1;go_wp2_with fail
        go_roundw
        case rel=>exact⟨k+1,{X with stk:=X.stk++[IntKind.u16.wrap (wrap64 (n1+k))]},q,d,by omega,by go_num,(by have:=HXl.out;simp;omega),HT2⟩
        case measure=>simp[intOf];omega
       have h8':¬ (k:Int) < t:=by omega
       obtain rfl:k=t:=by omega
       go_upto_region 27 with fail
       try simp only[Act.put]
       go_cut [11] from 138 to 143 (fun v wx=>v= .pointer (some ⟨g,0,none⟩)∧∃ X:Sn,X.stk.length=2+k∧Hid (LdT W1 g X p5 c5 wx))
       case first=>
        have k17:wr.cell? ⟨g,17,none⟩=some (.slice p5 X.stk.length c5):=HT.out.at 17 _ rfl;have kk:=HT.out.at 9 _ rfl;have rk:=HT.out.frz 9;go_wp2_with fail
        go_meet
        exact⟨rfl,{X with sp:=IntKind.u16.wrap _},HXl.out,Nc (HT.out.cSP _)⟩
       case rest=>
       obtain⟨rfl,X,hXl,HT⟩:=hcut;have HXl:=Nc hXl;clear hXl;have HD:=Nc (HT.out.next (Below.refl _ _).drew);have HI3:=Nc (HV.out.next HD.out.bel);obtain⟨A1,hA1,hs1⟩:=HI3.out.x.r1;obtain⟨A2,hA2,hs2⟩:=HI3.out.x.r2;have e1:w.heap.size+1≠w.heap.size+1+1:=by omega
       have e2:s+1≠w.heap.size+1:=by have:=HI3.out.hi;omega
       have e3:s+1≠w.heap.size+1+1:=by have:=HI3.out.hi;omega
       have e4:w.heap.size+1+1 < W1.heap.size:=by have:=HV.out.x.hi;omega
       have e5:=HD.out.lo;have b1:=HI3.out.box;have b2:=HD.out.box;have o1:=(setRow_other wc.drew (w.heap.size+1) _ (im3 s ve) e2).trans b1;have o2:=(setRow_other wc.drew (w.heap.size+1) _ (im3 s ve) (show g≠w.heap.size+1 by omega)).trans b2;have o3:=(setRow_other wc.drew (w.heap.size+1) _ (im3 s ve) e1.symm).trans hA2;have o4:=setRow_heap wc.drew (w.heap.size+1) _ (im3 s ve) _ _ hA1;have q1:=(setRow_other _ (w.heap.size+1+1) _ (snA X p5 c5 none 0) e3).trans o1;have q2:=(setRow_other _ (w.heap.size+1+1) _ (snA X p5 c5 none 0) (show g≠w.heap.size+1+1 by omega)).trans o2;have q3:=(setRow_other _ (w.heap.size+1+1) _ (snA X p5 c5 none 0) e1).trans o4;have q4:=setRow_heap _ (w.heap.size+1+1) _ (snA X p5 c5 none 0) _ _ o3;have q5:Below w.heap.size w ((wc.drew.setRow (w.heap.size+1) (im3 s ve)).setRow (w.heap.size+1+1) (snA X p5 c5 none 0)):=below_setRow (below_setRow HI3.out.x.bel (by omega) _) (by omega) _;have q6:SnH ((wc.drew.setRow (w.heap.size+1) (im3 s ve)).setRow (w.heap.size+1+1) (snA X p5 c5 none 0)) X p5 none:=(HD.out.snH.jf hA1 (by decide) (by decide) _).jf o3 (by decide) (by decide) _;have q7:((wc.drew.setRow (w.heap.size+1) (im3 s ve)).setRow (w.heap.size+1+1) (snA X p5 c5 none 0)).heap[s]? =some (.cells #[.string f,.string f3,.string f4] 9 (0,0)):=by
        have h0:=HI3.out.bks;have n1:s≠w.heap.size+1:=fun e=>by
         rw[e,hA1] at h0;injection h0 with h0;injection h0 with _ h0;exact absurd h0 (by decide)
        have n2:s≠w.heap.size+1+1:=fun e=>by
         rw[e,hA2] at h0;injection h0 with h0;injection h0 with _ h0;exact absurd h0 (by decide)
        exact(setRow_other _ _ _ _ n2).trans ((setRow_other _ _ _ _ n1).trans h0)
       have q8:=mr HD.out.own;rw[HN.out] at hA1 hA2 o1 o2 o3 o4 q1 q2 q3 q4 q5 q6 q7;have HB:=Nc (And.intro b1 b2);have HA:=Nc (And.intro hA1 hs1);have HO:=Nc (And.intro o1 o2);have HO3:=Nc (And.intro o3 hs2);have HQ:=Nc (And.intro q1 q2);have HQ2:=Nc (And.intro q3 q4);have HQ3:=Nc (And.intro q5 (And.intro q6 (And.intro q7 q8)));clear e1 e2 e3 e4 e5 b1 b2 o1 o2 o3 o4 q1 q2 q3 q4 q5 q6 q7 q8 hA1 hA2 hs1 hs2;go_upto_region 28 with fail
       refine wp_region_held_drew (S:=fun w'=>w'.heap[s+1]? =some (.cells (im3 s ve) 33 (0,0))∧w'.heap[g]? =some (.cells (snA X p5 c5 none 0) 40 (0,0))) (by kernel_rfl) HB.out (fun hHeld=>?_);refine tk 0 _ rfl (yieldsIf_load_mid (by rfl) 33 _ rfl (s+1) 0 rfl [.slice (some ⟨s,0,none⟩) 3 3,.int .u16 0,.int .u16 ve,.slice none 0 0,.slice none 0 0] _ (fun w hw=>aH hw.1 _ (fun j v hv=>by rw[← hv];simp[im3])) Tryz.underlying33 rfl mO) ?_;refine tk 1 _ rfl (yieldsIf_load_mid (by rfl) 40 _ rfl g 0 rfl (snL X p5 c5 none 0) _ (fun w hw=>aH hw.2 _ (fun j v hv=>by rw[← hv];simp[snL,snA])) Tryz.underlying40 rfl mM) ?_;refine rd1 2 rfl (fun K hK=>?_);refine Eq.mpr (if_pos (by rfl)) ?_;refine wp_store_row 33 _ _ rfl (m+1) (im3 s ve) rfl rfl 33 _ HA.out.1 dP (by rw[HA.out.2];rfl) (by simp[im3,Value.oneCell']) ?_;refine hK.out _ _ HO.out (fun hHeld=>?_);clear hK K
       try simp only[lay]
       refine rd1 3 rfl (fun K hK=>?_);refine Eq.mpr (if_pos (by rfl)) ?_;refine wp_store_row 40 _ _ rfl (m+1+1) (snA X p5 c5 none 0) rfl rfl 40 _ HO3.out.1 aU (by rw[HO3.out.2];rfl) (by simp[snA,Value.oneCell']) ?_;refine hK.out _ _ HQ.out (fun hHeld=>?_);clear hK K
       try simp only[lay]
       refine wpAnyH_done (by kernel_rfl) ?_ _;clear hHeld;go_wp2_with fail
       refine bodyPost_ret (v:= .tuple #[.agg (im3 s ve),.agg (snA X p5 c5 none 0)]) (fF rfl _ _ (m+1) (m+1+1) 33 40 _ _ (0,0) (0,0) rfl rfl HQ2.out.1 HQ2.out.2 Tryz.underlying33 mO Tryz.underlying40 mM) rfl ?_;rw[HN.out];exact⟨⟨s,f,f3,f4,ve,X,p5,c5,rfl,HV.out.ok,HT.out.ok,HQ3.out.2.2.1,HQ3.out.2.1,(by have:=HXl.out;omega),HQ3.out.2.2.2,HT.out.out,HT.out.ram⟩,HQ3.out.1⟩
end Go.Proofs.YthkcloapiefggaaGreatDoor
