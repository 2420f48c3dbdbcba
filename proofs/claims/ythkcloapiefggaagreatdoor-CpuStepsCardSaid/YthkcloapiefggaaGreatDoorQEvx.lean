import Derived.Test.YthkcloapiefggaaGreatDoorQCrx
import Derived.Laws.StructEq
import Derived.BigQuiet
import Derived.Deep.QuietTactic
namespace Go.Proofs.YthkcloapiefggaaGreatDoor
set_option linter.unusedVariables false
set_option linter.unusedSimpArgs false
set_option maxRecDepth 100000
set_option maxHeartbeats 1000000
open Go.ChangeShapes Go.WideShapes Go.RowKit
def mi(o:Nat)(s:ByteArray)(k j:Nat):Int:=if o≤j∧j < o+k then ba s (j-o) else 0
def kZ(o:Nat)(s:ByteArray):ByteArray:=u8L (mi o s s.size) 4096
theorem qH:(Tryz.prog.info? 5).map (fun i=>(i.zero,i.size,i.bytes))=some (some (.int .u8 0),1,1):=by kernel_rfl
structure PgB(B o:Nat)(s:ByteArray)(k:Nat)(w wr:World):Prop where
 blk:∃ A,wr.heap[B]? =some (.cells A 5 (0,0))∧A.size=4096∧∀ j,j < 4096→A[j]? =some (.int .u8 (mi o s k j))
 bel:Below B w wr
theorem PgB.put{B o:Nat}{s:ByteArray}{k:Nat}{w wr:World}(h:PgB B o s k w wr)(hk:o+k < 4096):PgB B o s (k+1) w (wr.setCell ⟨B,o+k,none⟩ (.int .u8 (ba s k))):=by
 obtain⟨A,a1,a2,a3⟩:=h.blk;refine⟨⟨_,bP wr B (o+k) _ _ _ _ a1,by simpa using a2,fun j hj=>?_⟩,h.bel.setCell (p:=⟨B,o+k,none⟩) (Nat.le_refl _) _⟩;rw[Array.getElem?_setIfInBounds];by_cases e:o+k=j
 ·subst e
  rw[if_pos rfl,if_pos (by omega)];unfold mi;rw[if_pos (by omega),show o+k-o=k by omega]
 ·rw[if_neg e,a3 j hj]
  unfold mi;by_cases q:o≤j∧j < o+k
  ·rw[if_pos q,if_pos (by omega)]
  ·rw[if_neg q,if_neg (by omega)]
theorem zT(o:Nat)(s:ByteArray)(k j:Nat)(hj:j < 4096)(hk:k≤s.size)(h:s.size≤k∨4096≤o+k):mi o s k j=mi o s s.size j:=by
 unfold mi;by_cases q:o≤j∧j < o+k
 ·rw[if_pos q,if_pos (by omega)]
 ·rw[if_neg q]
  by_cases q2:o≤j∧j < o+s.size
  ·rcases h with h|h<;>omega
  ·rw[if_neg q2]
theorem below_of_grown{w w':World}(h:w.grownBy w' none):Below w.heap.size w w':=⟨h.os,h.tape,h.output,h.size,fun k hk=>h.block k hk (by simp)⟩
theorem qx(z:Value)(n j:Nat)(hz:z.cells=#[z])(hj:j < n):(madeCells z.cells n)[j]? =some z:=by
 rw[hz];simp[madeCells,hj,Nat.mod_one]
theorem CP(o:Nat)(s:ByteArray)(w w1:World)(hown:w1.ownsRow w.heap.size 5 1 (.slice (some ⟨w.heap.size,0,none⟩) 4096 4096) 4096 (madeCells (Value.int IntKind.u8 0).cells (4096*1)).toList)(hb:Below w.heap.size w w1):PgB w.heap.size o s 0 w w1:=by
 rcases hown.2 with⟨hv,_⟩|⟨g,cap,cur,hv,hN,hb',hc,hc2,hc3,hc4⟩
 ·simp at hv
 ·simp only[Value.slice.injEq,Option.some.injEq,Addr.mk.injEq] at hv
  obtain⟨⟨rfl,_⟩,_,rfl⟩:=hv;refine⟨⟨cur,hb',by rw[hc3],fun j hj=>?_⟩,hb⟩;have e1:cur.toList=(madeCells (Value.int IntKind.u8 0).cells (4096*1)).toList:=by rw[← hc4,List.take_of_length_le (by simp[hc3])]
  have e2:cur=madeCells (Value.int IntKind.u8 0).cells (4096*1):=Array.toList_inj.1 e1;rw[e2,qx _ _ _ rfl (by omega)];unfold mi;rw[if_neg (by omega)]
theorem PgB.conv{B o:Nat}{s:ByteArray}{k:Nat}{w wr:World}(h:PgB B o s k w wr)(hk:k≤s.size)(he:s.size≤k∨4096≤o+k):
  (convert 41 9 (.slice (some ⟨B,0,none⟩) 4096 4096)).run Tryz.prog wr= .ok (.string (kZ o s)) wr:=by
 obtain⟨A,a1,a2,a3⟩:=h.blk;rw[jy (f:=mi o s k) (n:=4096) (b:=B) (o:=0) (w:=wr) (fun j v hv=>?_) 4096]
 ·unfold kZ u8L
  congr 4
  exact List.map_congr_left fun j hj=>by rw[zT o s k j (List.mem_range.1 hj) hk he]
 ·have hj:j < 4096:=by have:=(List.getElem?_eq_some_iff.1 hv).1;simpa using this
  rw[Nat.zero_add];refine ae a1 j v ?_;rw[a3 j hj,← hv];simp[hj]
set_option maxHeartbeats 2000000 in
theorem vU(o:Nat)(s:ByteArray)(w:World)(ho:o < 4096)(hs:s.size≤1000000000):
  Calls Tryz.prog 24 #[.int .i64 (o:Int),.string s] w fun e w'=>e= .returned (.string (kZ o s))∧Below w.heap.size w w':=by
 obtain⟨i0,hi,hz0,hz1,hz2⟩:=info_parts qH;obtain⟨n,hn⟩:∃ n,s.size=n:=⟨_,rfl⟩;have HN:=Nc hn;have hs1:(s.size:Int)≤1000000000:=by omega
 have ho1:(o:Int) < 4096:=by omega
 have HO:=Nc ho;clear ho hs hn;go_enter Tryz.func24,Tryz.ntmps24
 go_wp2_with (refine wpList_make_full _ rfl _ _ 41 rfl w.heap.size 5 i0 (.int .u8 0) 1 Tryz.underlying41 hi hz0 hz1 .i64 .i64 4096 4096 4096 rfl rfl rfl rfl (by rw[hz2];decide) (by decide) (Nat.le_refl _) ?_;intro w1 hown hgr)
 have HG:=Nc (below_of_grown hgr);have H0:=Nc (CP o s w w1 hown (below_of_grown hgr));obtain⟨B,hB⟩:∃ B,w.heap.size=B:=⟨_,rfl⟩;rw[hB] at H0 HG⊢;have HB:=Nc hB;clear hown hgr hi hz0 hz1 hz2 hB;go_loopw [6] (fun i wr=>∃ k:Nat,k≤s.size∧i= .int .i64 k∧Hid (PgB B o s k w wr)) (fun i _=>s.size-(intOf i).toNat)
 case atStart=>exact⟨0,Nat.zero_le _,rfl,H0⟩
 case round=>
  obtain⟨k,hk,rfl,HK⟩:=hrel;by_cases h1:k < s.size
  ·by_cases h2:o+k < 4096
   ·obtain⟨A,a1,a2,a3⟩:=HK.out.blk
    have c1:=ae a1 (o+k) _ (a3 _ h2);have f1:=frozen_of_row wr B (o+k) _ _ a1;have HP:=Nc (HK.out.put h2);have hq:(o:Int)+k < 4096:=by omega
    have hq0:(0:Int)≤(o:Int)+k:=by omega
    have hq1:((o:Int)+k).toNat=o+k:=by omega
    have HBA:=Nc (bG s k h1);have hkb:(k:Int)+1≤1000000000:=by omega
    have H2:=Nc h2;clear a1 a3 h2 a2;go_wp2_with fail
    go_roundw
    case rel=>exact⟨k+1,h1,by go_num,by rw[HBA.out];exact HP⟩
    case measure=>simp[intOf];omega
   ·have hq:¬ (o:Int)+k < 4096:=by omega
    have H2:=Nc h2;have hcv:=HK.out.conv hk (.inr (by omega));clear h2;go_wp2_with fail
    go_ret
    exact⟨rfl,HB.out▸HK.out.bel⟩
  ·have hcv:=HK.out.conv hk (.inl (by omega))
   go_wp2_with fail
   go_ret
   exact⟨rfl,HB.out▸HK.out.bel⟩
def eF(o:Nat)(s:ByteArray):Im:=⟨[kZ o s],0,0,[],[]⟩
structure ImEnd(I:Im)(e:Ending)(w:World):Prop where
 ret:∃ P,e= .returned (imV P I)∧Has w P I
theorem sD(o:Nat)(s:ByteArray):(kZ o s).size=4096:=by
 show((List.range 4096).map _).toArray.size=4096
 rw[List.size_toArray,List.length_map,List.length_range]
set_option maxHeartbeats 2000000 in
theorem nS(s:ByteArray)(w:World)(hs:s.size≤1000000000):
  Calls Tryz.prog 21 #[.string s] w fun e w'=>(∃ g,e= .returned (.agg #[.slice (some ⟨g,0,none⟩) 1 1,.int .u16 0,.int .u16 0,.slice none 0 0,.slice none 0 0])∧w.heap.size≤g∧w'.heap[g]? =some (.cells #[.string (kZ 0 s)] 9 (0,0)))∧Below w.heap.size w w':=by
 have HP:=Nc (fun W=>vU 0 s W (by decide) hs);clear hs;go_enter Tryz.func21,Tryz.ntmps21
 go_wp2_with fail
 refine(HP.out _).mono ?_;rintro e w1 ⟨rfl,hb1⟩;obtain⟨x,hx⟩:∃ x,kZ 0 s=x:=⟨_,rfl⟩;rw[hx];have hz:((w.alloc (.cells #[.slice none 0 0,.int .u16 0,.int .u16 0,.slice none 0 0,.slice none 0 0] 33))).heap.size=w.heap.size+1:=by simp
 have hb2:=aj _ (.cells #[.string x] 9) _ (af (heap_alloc_new w (.cells #[.slice none 0 0,.int .u16 0,.int .u16 0,.slice none 0 0,.slice none 0 0] 33)) hb1);have hg2:=heap_alloc_new w1 (.cells #[.string x] 9);have hlt:w.heap.size < w1.heap.size:=by have:=hb1.size;rw[hz] at this;omega
 have HB2:=Nc ((((Below.refl _ w).alloc (Nat.le_refl _) (.cells #[.slice none 0 0,.int .u16 0,.int .u16 0,.slice none 0 0,.slice none 0 0] 33)).trans (hb1.mono (by rw[hz];omega))).alloc (by omega) (.cells #[.string x] 9));have HBk:=Nc hb2;have HG2:=Nc hg2;have HLT:=Nc hlt;have HXx:=Nc hx;clear HP hb2 hg2 hlt hb1 hx hz;go_wp2_with (refine wpList_store_row rfl 33 _ _ rfl w.heap.size #[.slice (some ⟨w1.heap.size,0,none⟩) 1 1,.int .u16 0,.int .u16 0,.slice none 0 0,.slice none 0 0] rfl rfl 33 _ HBk.out dP (by rfl) (by simp[Value.oneCell']) ?_)
 refine bodyPost_ret (v:= .agg #[.slice (some ⟨w1.heap.size,0,none⟩) 1 1,.int .u16 0,.int .u16 0,.slice none 0 0,.slice none 0 0]) (results_cell_row rfl _ _ w.heap.size 33 _ (0,0) _ rfl (setRow_heap _ _ _ _ 33 (0,0) HBk.out) Tryz.underlying33 rfl dP) rfl ⟨⟨w1.heap.size,rfl,Nat.le_of_lt HLT.out,?_⟩,below_setRow HB2.out (Nat.le_refl _) _⟩;rw[HXx.out];exact(setRow_other _ _ _ _ (by have:=HLT.out;omega)).trans HG2.out
def gu(I:Im):Sn:=⟨fun _=>0,I.en,0,0,0,0,0,0,0,⟨#[]⟩,[0,65535],[]⟩
def gy(I:Im):Ms:=aQ (gu I)
theorem pG:U16 0:=⟨by decide,by decide⟩
theorem oI:I64 0:=⟨by decide,by decide⟩
theorem rM(I:Im)(hI:I.Ok):(gu I).Ok:=⟨fun _ _=>pG,⟨hI.e0,hI.e1⟩,pG,pG,oI,oI,oI,oI,by intro x hx;simp[gu] at hx;rcases hx with rfl | rfl<;>exact⟨by decide,by decide⟩,by intro e he;simp[gu] at he⟩
theorem SnH.set1{w:World}{X:Sn}{p q:Option Addr}{N a:Nat}(h:SnH w X p q)(hp:From N p)(hq:From N q)(ha:a < N)(ca:Array Value):SnH (w.setRow a ca) X p q:=by
 refine⟨fun j x hx=>?_,fun j x hx=>?_,fun g hg=>?_,fun g hg=>?_⟩
 ·obtain⟨g,hg,hc⟩:=h.stk j x hx
  have:=hp g hg;exact⟨g,hg,by rw[cell_setRow_other _ _ _ _ (by simp only;omega)];exact hc⟩
 ·obtain⟨g,hg,hc⟩:=h.out j x hx
  have:=hq g hg;exact⟨g,hg,by rw[cell_setRow_other _ _ _ _ (by simp only;omega)];exact hc⟩
 ·have:=hp g hg
  exact(h.ts g hg).imp fun A hA=>(setRow_other _ _ _ _ (by omega)).trans hA
 ·have:=hq g hg
  exact(h.te g hg).imp fun A hA=>(setRow_other _ _ _ _ (by omega)).trans hA
structure StB(P:Pl)(I:Im)(w W:World):Prop where
 bel:Below w.heap.size w W
 size:W.heap.size=w.heap.size+4
 res:W.heap[w.heap.size+1]? =some (.cells zS 40 (0,0))
 stk:SnH W (gu I) (some ⟨w.heap.size+1+1,0,none⟩) none
 r0:W.rangeAt w.heap.size 0 (imL P I)
 r3:W.rangeAt (w.heap.size+1+1+1) 0 [.int .u16 0,.int .u16 0,.int .u16 0,.int .u16 0,.int .u16 0,.int .u16 0,.int .u16 0,.int .u16 0,.int .u16 I.en,.int .u16 0,.int .u16 0,.int .u16 0,.int .i64 0,.int .i64 0,.int .i64 0,.int .i64 0,.string ⟨#[]⟩,.slice (some ⟨w.heap.size+1+1,0,none⟩) 2 2,.slice none 0 0]
theorem xZ(P:Pl)(I:Im)(w W4:World)(hW4:(((((w.alloc (.cells #[.slice P.p0 I.banks.length P.c0,.int .u16 I.en,.int .u16 I.ve,.slice P.p1 I.data.length P.c1,.slice P.p2 I.rel.length P.c2] 33)).alloc (.cells zS 40)).alloc (.cells #[.int .u16 0,.int .u16 65535] 29)).alloc (.cells zS 40)).setRow (w.heap.size+1+1+1) #[.int .u16 0,.int .u16 0,.int .u16 0,.int .u16 0,.int .u16 0,.int .u16 0,.int .u16 0,.int .u16 0,.int .u16 I.en,.int .u16 0,.int .u16 0,.int .u16 0,.int .i64 0,.int .i64 0,.int .i64 0,.int .i64 0,.string ⟨#[]⟩,.slice (some ⟨w.heap.size+1+1,0,none⟩) 2 2,.slice none 0 0])=W4):StB P I w W4:=by
 obtain⟨W3,hW3⟩:∃ W3,((((w.alloc (.cells #[.slice P.p0 I.banks.length P.c0,.int .u16 I.en,.int .u16 I.ve,.slice P.p1 I.data.length P.c1,.slice P.p2 I.rel.length P.c2] 33)).alloc (.cells zS 40)).alloc (.cells #[.int .u16 0,.int .u16 65535] 29)).alloc (.cells zS 40))=W3:=⟨_,rfl⟩;have b0:W3.heap[w.heap.size]? =some (.cells #[.slice P.p0 I.banks.length P.c0,.int .u16 I.en,.int .u16 I.ve,.slice P.p1 I.data.length P.c1,.slice P.p2 I.rel.length P.c2] 33 (0,0)):=by rw[← hW3];exact aj _ _ _ (aj _ _ _ (aj _ _ _ (heap_alloc_new _ _)))
 have b1:W3.heap[w.heap.size+1]? =some (.cells zS 40 (0,0)):=by rw[← hW3];exact aj _ _ _ (aj _ _ _ (by have h:=heap_alloc_new (w.alloc (.cells #[.slice P.p0 I.banks.length P.c0,.int .u16 I.en,.int .u16 I.ve,.slice P.p1 I.data.length P.c1,.slice P.p2 I.rel.length P.c2] 33)) (.cells zS 40);rw[World.size_alloc] at h;exact h))
 have b2:W3.heap[w.heap.size+1+1]? =some (.cells #[.int .u16 0,.int .u16 65535] 29 (0,0)):=by rw[← hW3];exact aj _ _ _ (by have h:=heap_alloc_new ((w.alloc (.cells #[.slice P.p0 I.banks.length P.c0,.int .u16 I.en,.int .u16 I.ve,.slice P.p1 I.data.length P.c1,.slice P.p2 I.rel.length P.c2] 33)).alloc (.cells zS 40)) (.cells #[.int .u16 0,.int .u16 65535] 29);simp only[World.size_alloc] at h;exact h)
 have b3:W3.heap[w.heap.size+1+1+1]? =some (.cells zS 40 (0,0)):=by rw[← hW3];have h:=heap_alloc_new (((w.alloc (.cells #[.slice P.p0 I.banks.length P.c0,.int .u16 I.en,.int .u16 I.ve,.slice P.p1 I.data.length P.c1,.slice P.p2 I.rel.length P.c2] 33)).alloc (.cells zS 40)).alloc (.cells #[.int .u16 0,.int .u16 65535] 29)) (.cells zS 40);simp only[World.size_alloc] at h;exact h
 have hb:Below w.heap.size w W3:=by rw[← hW3];exact((((Below.refl _ w).alloc (Nat.le_refl _) _).alloc (by simp) _).alloc (by simp;omega) _).alloc (by simp;omega) _
 have hs:W3.heap.size=w.heap.size+4:=by rw[← hW3];simp
 rw[hW3] at hW4;have d3:W4.heap[w.heap.size+1+1+1]? =some (.cells #[.int .u16 0,.int .u16 0,.int .u16 0,.int .u16 0,.int .u16 0,.int .u16 0,.int .u16 0,.int .u16 0,.int .u16 I.en,.int .u16 0,.int .u16 0,.int .u16 0,.int .i64 0,.int .i64 0,.int .i64 0,.int .i64 0,.string ⟨#[]⟩,.slice (some ⟨w.heap.size+1+1,0,none⟩) 2 2,.slice none 0 0] 40 (0,0)):=by rw[← hW4];exact setRow_heap _ _ _ _ _ _ b3
 have dk:∀ k,k≠w.heap.size+1+1+1→W4.heap[k]? =W3.heap[k]? :=fun k hk=>by rw[← hW4];exact setRow_other _ _ _ _ hk
 exact⟨by rw[← hW4];exact below_setRow hb (by omega) _,by rw[← hW4];simp[World.setRow,hs],(dk _ (by omega)).trans b1,⟨fun j x hx=>⟨w.heap.size+1+1,rfl,ae ((dk _ (by omega)).trans b2) j x (by rw[← hx];simp[inC,gu])⟩,Sl.nil _ _,fun g hg=>⟨_,by cases hg;exact(dk _ (by omega)).trans b2⟩,fun g hg=>by cases hg⟩,
  aH ((dk _ (by omega)).trans b0) _ (fun j v hv=>by rw[← hv];simp[imL]),aH d3 _ (fun j v hv=>by rw[← hv];simp)⟩
set_option maxHeartbeats 2000000 in
theorem x8(P:Pl)(I:Im)(w:World)(hI:I.Ok)(hp:Has w P I)(ht:iq w):
  Calls Tryz.prog 29 #[.agg #[.slice P.p0 I.banks.length P.c0,.int .u16 I.en,.int .u16 I.ve,.slice P.p1 I.data.length P.c1,.slice P.p2 I.rel.length P.c2]] w fun e w'=>kJ w.heap.size (au (gy I)) e w'∧Below w.heap.size w w':=by
 have b3:((((w.alloc (.cells #[.slice P.p0 I.banks.length P.c0,.int .u16 I.en,.int .u16 I.ve,.slice P.p1 I.data.length P.c1,.slice P.p2 I.rel.length P.c2] 33)).alloc (.cells zS 40)).alloc (.cells #[.int .u16 0,.int .u16 65535] 29)).alloc (.cells zS 40)).heap[w.heap.size+1+1+1]? =some (.cells zS 40 (0,0)):=by have h:=heap_alloc_new (((w.alloc (.cells #[.slice P.p0 I.banks.length P.c0,.int .u16 I.en,.int .u16 I.ve,.slice P.p1 I.data.length P.c1,.slice P.p2 I.rel.length P.c2] 33)).alloc (.cells zS 40)).alloc (.cells #[.int .u16 0,.int .u16 65535] 29)) (.cells zS 40);simp only[World.size_alloc] at h;exact h
 obtain⟨W4,hW4⟩:∃ W4,(((((w.alloc (.cells #[.slice P.p0 I.banks.length P.c0,.int .u16 I.en,.int .u16 I.ve,.slice P.p1 I.data.length P.c1,.slice P.p2 I.rel.length P.c2] 33)).alloc (.cells zS 40)).alloc (.cells #[.int .u16 0,.int .u16 65535] 29)).alloc (.cells zS 40)).setRow (w.heap.size+1+1+1) #[.int .u16 0,.int .u16 0,.int .u16 0,.int .u16 0,.int .u16 0,.int .u16 0,.int .u16 0,.int .u16 0,.int .u16 I.en,.int .u16 0,.int .u16 0,.int .u16 0,.int .i64 0,.int .i64 0,.int .i64 0,.int .i64 0,.string ⟨#[]⟩,.slice (some ⟨w.heap.size+1+1,0,none⟩) 2 2,.slice none 0 0])=W4:=⟨_,rfl⟩;have HH:=xZ P I w W4 hW4;have hload:=qy P I ⟨[],[]⟩ none none 0 0 (gu I) (some ⟨w.heap.size+1+1,0,none⟩) none 2 0 W4 hI ⟨by simp,by simp,by simp,by simp⟩ (rM I hI) (hp.below HH.bel) (Sl.nil _ _).slo (Sl.nil _ _).slo HH.stk (bF (by obtain⟨_,_,h⟩:=ht;exact lt_of_block h) ht HH.bel) (by unfold iK;simp[gu]);have HL4:=Nc hload;have HB3:=Nc b3;have HBx:=Nc HH;have HE:=Nc hW4;clear hload b3 HH hW4 hI hp ht;go_enter Tryz.func29,Tryz.ntmps29
 go_wp2_with (first
  | (refine wpList_store_row rfl 40 _ _ rfl (w.heap.size+1+1+1) #[.int .u16 0,.int .u16 0,.int .u16 0,.int .u16 0,.int .u16 0,.int .u16 0,.int .u16 0,.int .u16 0,.int .u16 I.en,.int .u16 0,.int .u16 0,.int .u16 0,.int .i64 0,.int .i64 0,.int .i64 0,.int .i64 0,.string ⟨#[]⟩,.slice (some ⟨w.heap.size+1+1,0,none⟩) 2 2,.slice none 0 0] rfl rfl 40 _ HB3.out aU (by rfl) (by simp[Value.oneCell']) ?_;rw[HE.out])
  | refine wpList_load_mid rfl 33 _ rfl w.heap.size 0 rfl (imL P I) _ HBx.out.r0 Tryz.underlying33 rfl dP ?_
  | refine wpList_load_mid rfl 40 _ rfl (w.heap.size+1+1+1) 0 rfl [.int .u16 0,.int .u16 0,.int .u16 0,.int .u16 0,.int .u16 0,.int .u16 0,.int .u16 0,.int .u16 0,.int .u16 I.en,.int .u16 0,.int .u16 0,.int .u16 0,.int .i64 0,.int .i64 0,.int .i64 0,.int .i64 0,.string ⟨#[]⟩,.slice (some ⟨w.heap.size+1+1,0,none⟩) 2 2,.slice none 0 0] _ HBx.out.r3 Tryz.underlying40 rfl aU ?_)
 refine HL4.out.mono ?_;rintro e w1 ⟨E,ov,rfl,hE0,hEI,hET,hm,hz⟩;have hb1:Below W4.heap.size W4 w1:=by have h:=hm.bel;rw[hE0] at h;exact h
 have HM:=Nc hm;have HB1:=Nc hb1;clear hE0 hEI hET hm hz hb1 HL4 HE HB3;go_wp2_with fail
 refine(pK E ov (aQ (gu I)) _ HM.out (by unfold iK;simp[aQ,gu])).mono ?_;rintro e w2 ⟨⟨p1,c1,q1,d1,rfl,hs1,hf1,hf2,hcp⟩,hb2⟩;have HCap:=Nc hcp;clear hcp;have hb3:=HB1.out.trans (hb2.mono HB1.out.size);have hr2:=af HBx.out.res hb3;have hB2:Below w.heap.size w w2:=HBx.out.bel.trans (hb3.mono HBx.out.bel.size);have hge:w.heap.size+1 < w1.heap.size:=by have h1:=HB1.out.size;have h2:=HBx.out.size;omega
 have HFin:=Nc (And.intro (below_setRow hB2 (show w.heap.size≤w.heap.size+1 by omega) (snA (au (aQ (gu I))) p1 c1 q1 d1)) (And.intro (setRow_heap w2 (w.heap.size+1) _ (snA (au (aQ (gu I))) p1 c1 q1 d1) 40 (0,0) hr2) (hs1.set1 hf1 hf2 hge (snA (au (aQ (gu I))) p1 c1 q1 d1))));have HF:=Nc (And.intro (show From w.heap.size p1 from fun g hg=>Nat.le_trans (by omega) (hf1 g hg)) (show From w.heap.size q1 from fun g hg=>Nat.le_trans (by omega) (hf2 g hg)));have HR2:=Nc hr2;clear hs1 hf1 hf2 hb2 hb3 hr2 hB2 hge;go_wp2_with (refine wpList_store_row rfl 40 _ _ rfl (w.heap.size+1) (snA (au (aQ (gu I))) p1 c1 q1 d1) rfl rfl 40 _ HR2.out aU (by rfl) (by simp[snA,Value.oneCell']) ?_)
 exact bodyPost_ret (v:= .agg (snA (au (aQ (gu I))) p1 c1 q1 d1)) (results_cell_row rfl _ _ (w.heap.size+1) 40 _ (0,0) _ rfl HFin.out.2.1 Tryz.underlying40 rfl aU) rfl ⟨⟨p1,c1,q1,d1,rfl,HFin.out.2.2,HF.out.1,HF.out.2,HCap.out⟩,HFin.out.1⟩
def zeros:ByteArray:=u8L (fun _=>0) 8192
def pX(I:Im):Sn:=⟨fun _=>0,I.en,2,0,0,0,0,0,0,zeros,[0,65535],[]⟩
theorem jC(w:World){o:Oper}{a:Act}{K:Act→World→Prop}{Q:Exit→Act→World→Prop}(l c:Operand)(t:TypeId)(hop:o.op=Op.makeSlice t l c)
  (base:Nat) (e:TypeId) (i:TypeInfo) (z:Value) (size:Nat) (h1:Tryz.prog.underlying t=some (.slice e)) (h2:Tryz.prog.info? e=some i) (h3:i.zero=some z) (h4:i.size=size)
  (kl kc:IntKind) (n:Nat) (hl:a.eval l= .int kl (n:Int)) (hc:a.eval c= .int kc (n:Int)) (b2:i.bytes*n≤281474976710656) (b3:n≤maxLen) (b4:base≤w.heap.size)
  (hK:∀ w',w'.ownsRow base e size (.slice (some ⟨w.heap.size,0,none⟩) n n) n (madeCells z.cells (n*size)).toList→w.grownBy w' none→K (a.put o.dst (.slice (some ⟨w.heap.size,0,none⟩) n n)) w'):o.wp Tryz.prog a w K Q:=by
 obtain⟨w',hrun,r1,r2⟩:=run_make_full (P:=Tryz.prog) w base t e i z size h1 h2 h3 h4 kl kc n b2 b3 b4;unfold Oper.wp;simp[execOp,hop,hl,hc,hrun,Result.andThen];exact hK _ r1 r2
theorem tJ{o:Oper}{a:Act}{w:World}{K:Act→World→Prop}{Q:Exit→Act→World→Prop}{x:Operand}{ad:Addr}{n c:Nat}{v:Value}(ho:o.op= .convert 41 9 x)(hx:a.eval x= .slice (some ad) n c)
  (h:(convert 41 9 (.slice (some ad) n c)).run Tryz.prog w= .ok v w) (hk:K (a.put o.dst v) w):o.wp Tryz.prog a w K Q:=by
 unfold Oper.wp;rw[nV ho hx h];exact hk
theorem uM{w:World}{B N n:Nat}(hown:w.ownsRow N 5 1 (.slice (some ⟨B,0,none⟩) n n) n (madeCells (Value.int IntKind.u8 0).cells (n*1)).toList):w.rangeAt B 0 (((List.range n).map fun _=>(0:Int)).map (Value.int .u8)):=by
 rcases hown.2 with⟨hv,_⟩|⟨g,cap,cur,hv,hN,hb',hc,hc2,hc3,hc4⟩
 ·simp at hv
 ·simp only[Value.slice.injEq,Option.some.injEq,Addr.mk.injEq] at hv
  obtain⟨⟨rfl,_⟩,_,rfl⟩:=hv;intro j v hv;have hj:j < n:=by have:=(List.getElem?_eq_some_iff.1 hv).1;simpa using this
  have e1:cur.toList=(madeCells (Value.int IntKind.u8 0).cells (n*1)).toList:=by rw[← hc4,List.take_of_length_le (by simp[hc3])]
  have e2:cur=madeCells (Value.int IntKind.u8 0).cells (n*1):=Array.toList_inj.1 e1;rw[Nat.zero_add];refine ae hb' j v ?_;rw[e2,qx _ _ _ rfl (by omega),← hv];simp[hj]
theorem nX{w:World}{B n c:Nat}(h:w.rangeAt B 0 (((List.range n).map fun _=>(0:Int)).map (Value.int .u8))):(convert 41 9 (.slice (some ⟨B,0,none⟩) n c)).run Tryz.prog w= .ok (.string (u8L (fun _=>0) n)) w:=jy h c
theorem gG{w w':World}{B:Nat}{l:List Value}(h:w.rangeAt B 0 l)(hb:Below w.heap.size w w'):w'.rangeAt B 0 l:=fun j v hv=>by
 have hc:=h j v hv;exact(hb.cell (p:=⟨B,0+j,none⟩) (World.block_lt_of_cell? _ _ hc)).trans hc
theorem kG(en:Int)(x:ByteArray)(p:Option Addr)(m c:Nat):Tryz.prog.built 40 [(0,.agg #[.int .u16 0,.int .u16 0,.int .u16 0,.int .u16 0,.int .u16 0,.int .u16 0,.int .u16 0,.int .u16 0,.int .u16 en,.int .u16 2,.int .u16 0,.int .u16 0,.int .i64 0,.int .i64 0,.int .i64 0,.int .i64 0]),(1,.string x),(2,.slice p m c)]=some #[.int .u16 0,.int .u16 0,.int .u16 0,.int .u16 0,.int .u16 0,.int .u16 0,.int .u16 0,.int .u16 0,.int .u16 en,.int .u16 2,.int .u16 0,.int .u16 0,.int .i64 0,.int .i64 0,.int .i64 0,.int .i64 0,.string x,.slice p m c,.slice none 0 0]:=by kernel_rfl
theorem Ij{w:World}{g:Nat}(h:w.heap[g]? =some (.cells #[.int .u16 0,.int .u16 65535] 29 (0,0)))(I:Im):SnH w (pX I) (some ⟨g,0,none⟩) none:=⟨fun j x hx=>⟨g,rfl,ae h j x (by rw[← hx];simp[inC,pX])⟩,Sl.nil _ _,fun k hk=>⟨_,by cases hk;exact h⟩,fun k hk=>by cases hk⟩
structure PsB(n:Nat)(I:Im)(w V:World):Prop where
 cell:V.cell? ⟨n,1,none⟩=some (.int .u16 I.en)
 box:V.heap[n+1]? =some (.cells zS 40 (0,0))
 bel:Below n w V
 lt:n+1 < V.heap.size
theorem PsB.next{n:Nat}{I:Im}{w V U:World}(h:PsB n I w V)(hb:Below V.heap.size V U):PsB n I w U:=⟨jA h.cell hb,af h.box hb,h.bel.trans (hb.mono (by have:=h.lt;omega)),Nat.lt_of_lt_of_le h.lt hb.size⟩
structure PsF(n g:Nat)(I:Im)(w V:World):Prop where
 cell:V.cell? ⟨n,1,none⟩=some (.int .u16 I.en)
 res:V.heap[n+1]? =some (.cells #[.int .u16 0,.int .u16 0,.int .u16 0,.int .u16 0,.int .u16 0,.int .u16 0,.int .u16 0,.int .u16 0,.int .u16 I.en,.int .u16 2,.int .u16 0,.int .u16 0,.int .i64 0,.int .i64 0,.int .i64 0,.int .i64 0,.string zeros,.slice (some ⟨g,0,none⟩) 2 2,.slice none 0 0] 40 (0,0))
 snh:SnH V (pX I) (some ⟨g,0,none⟩) none
 blk:V.heap[g]? =some (.cells #[.int .u16 0,.int .u16 65535] 29 (0,0))
 frm:From n (some ⟨g,0,none⟩)
 bel:Below n w V
theorem uk{n g:Nat}{I:Im}{w V:World}(h:PsB n I w V)(h2:V.heap[g]? =some (.cells #[.int .u16 0,.int .u16 65535] 29 (0,0)))(hg:n+1 < g):PsF n g I w (V.setRow (n+1) #[.int .u16 0,.int .u16 0,.int .u16 0,.int .u16 0,.int .u16 0,.int .u16 0,.int .u16 0,.int .u16 0,.int .u16 I.en,.int .u16 2,.int .u16 0,.int .u16 0,.int .i64 0,.int .i64 0,.int .i64 0,.int .i64 0,.string zeros,.slice (some ⟨g,0,none⟩) 2 2,.slice none 0 0]):=
 ⟨by rw[cell_setRow_other _ _ _ _ (by simp only;omega)];exact h.cell,setRow_heap _ _ _ _ _ _ h.box,Ij ((setRow_other _ _ _ _ (by omega)).trans h2) I,(setRow_other _ _ _ _ (by omega)).trans h2,fun k hk=>by cases hk;omega,below_setRow h.bel (by omega) _⟩
def Ls(N:Nat)(I:Im)(e:Ending)(w:World):Prop:=∃ g,N≤g∧e= .returned (snV (pX I) (some ⟨g,0,none⟩) 2 none 0)∧SnH w (pX I) (some ⟨g,0,none⟩) none∧w.heap[g]? =some (.cells #[.int .u16 0,.int .u16 65535] 29 (0,0))
set_option maxHeartbeats 4000000 in
theorem xw(P:Pl)(I:Im)(w:World):
  Calls Tryz.prog 22 #[.agg #[.slice P.p0 I.banks.length P.c0,.int .u16 I.en,.int .u16 I.ve,.slice P.p1 I.data.length P.c1,.slice P.p2 I.rel.length P.c2]] w fun e w'=>Ls w.heap.size I e w'∧Below w.heap.size w w':=by
 obtain⟨i0,hi,hz0,hz1,hz2⟩:=info_parts qH;have h0:PsB w.heap.size I w ((w.alloc (.cells #[.slice P.p0 I.banks.length P.c0,.int .u16 I.en,.int .u16 I.ve,.slice P.p1 I.data.length P.c1,.slice P.p2 I.rel.length P.c2] 33)).alloc (.cells zS 40)):=⟨bZ (ae (heap_alloc_new w (.cells #[.slice P.p0 I.banks.length P.c0,.int .u16 I.en,.int .u16 I.ve,.slice P.p1 I.data.length P.c1,.slice P.p2 I.rel.length P.c2] 33)) 1 _ rfl) _,(by have h:=heap_alloc_new (w.alloc (.cells #[.slice P.p0 I.banks.length P.c0,.int .u16 I.en,.int .u16 I.ve,.slice P.p1 I.data.length P.c1,.slice P.p2 I.rel.length P.c2] 33)) (.cells zS 40);rw[World.size_alloc] at h;exact h),((Below.refl _ w).alloc (Nat.le_refl _) _).alloc (by simp) _,by simp⟩;have H0:=Nc h0;clear h0;go_enter Tryz.func22,Tryz.ntmps22
 go_upto_region 1 with fail
 obtain⟨W0,hW0⟩:∃ W0,(w.alloc (.cells #[.slice P.p0 I.banks.length P.c0,.int .u16 I.en,.int .u16 I.ve,.slice P.p1 I.data.length P.c1,.slice P.p2 I.rel.length P.c2] 33)).alloc (.cells zS 40)=W0:=⟨_,rfl⟩;rw[hW0] at H0;rw[hW0];obtain⟨n,hn⟩:∃ n,w.heap.size=n:=⟨_,rfl⟩;rw[hn] at H0;rw[hn];have HN:=Nc hn;have hS0:(fun w'=>w'.cell? ⟨n,1,none⟩=some (.int .u16 I.en)) W0.drew:=H0.out.cell;have HFd:=Nc (H0.out.next (Below.refl _ _).drew);clear hW0 hn H0;refine wp_region_held_drew (S:=fun w'=>w'.cell? ⟨n,1,none⟩=some (.int .u16 I.en)) (by kernel_rfl) hS0 (fun hHeld=>?_);obtain⟨wd,hwd⟩:∃ wd,W0.drew=wd:=⟨_,rfl⟩;rw[hwd] at HFd hHeld hS0;rw[hwd];clear hwd;refine tq 0 rfl ?_;refine tq 1 rfl ?_;refine tq 2 rfl ?_;refine wpAnyH_ready (rs:=[3,5]) (by kernel_rfl) (by simp) ?_;refine(AllReadyH.cons rfl (fun K hK=>?_) (AllReadyH.cons rfl (fun K hK=>?_) AllReadyH.nil))
 ·refine Eq.mpr (if_pos (by rfl)) ?_
  refine jC _ _ _ 41 rfl 0 5 i0 (.int .u8 0) 1 Tryz.underlying41 hi hz0 hz1 .i64 .i64 8192 rfl rfl (by rw[hz2];decide) (by decide) (Nat.zero_le _) ?_;intro wm hown hgr;have hbm:=below_of_grown hgr;have HRm:=Nc (uM hown);have HFm:=Nc (HFd.out.next hbm);have hzm:=hbm.size;clear hown hgr hbm;refine hK.out _ _ (HFm.out.cell) (fun hHeld=>?_);clear hK K
  try simp only[lay]
  refine wpAnyH_ready (rs:=[4,5]) (by kernel_rfl) (by simp) ?_;refine(AllReadyH.cons rfl (fun K hK=>?_) (AllReadyH.cons rfl (fun K hK=>?_) AllReadyH.nil))
  ·refine Eq.mpr (if_pos (by rfl)) ?_
   refine tJ rfl rfl (nX HRm.out) ?_;refine hK.out _ _ (HFm.out.cell) (fun hHeld=>?_);clear hK K
   try simp only[lay]
   refine wpAnyH_ready (rs:=[5]) (by kernel_rfl) (by simp) ?_;refine(AllReadyH.cons rfl (fun K hK=>?_) AllReadyH.nil);go_simp;have HFa:=Nc (HFm.out.next ((Below.refl _ _).alloc (Nat.le_refl _) (.cells #[.int .u16 0,.int .u16 65535] 29)));have HGa:=Nc (heap_alloc_new wm (.cells #[.int .u16 0,.int .u16 65535] 29));refine hK.out _ _ (HFa.out.cell) (fun hHeld=>?_);clear hK K
   try simp only[lay]
   refine rd1 6 rfl (fun K hK=>?_);refine Eq.mpr (if_pos (by rfl)) ?_;refine dK 40 _ rfl [(0,.agg #[.int .u16 0,.int .u16 0,.int .u16 0,.int .u16 0,.int .u16 0,.int .u16 0,.int .u16 0,.int .u16 0,.int .u16 I.en,.int .u16 2,.int .u16 0,.int .u16 0,.int .i64 0,.int .i64 0,.int .i64 0,.int .i64 0]),(1,.string zeros),(2,.slice (some ⟨wm.heap.size,0,none⟩) 2 2)] (by simp only[List.map_toArray,List.map_cons,List.map_nil];rfl) (kG I.en zeros _ 2 2) ?_;refine hK.out _ _ (HFa.out.cell) (fun hHeld=>?_);clear hK K
   try simp only[lay]
   have HFin:=Nc (uk HFa.out HGa.out (g:=wm.heap.size) HFm.out.lt);refine rd1 7 rfl (fun K hK=>?_);refine Eq.mpr (if_pos (by rfl)) ?_;refine wp_store_row 40 _ _ rfl (n+1) #[.int .u16 0,.int .u16 0,.int .u16 0,.int .u16 0,.int .u16 0,.int .u16 0,.int .u16 0,.int .u16 0,.int .u16 I.en,.int .u16 2,.int .u16 0,.int .u16 0,.int .i64 0,.int .i64 0,.int .i64 0,.int .i64 0,.string zeros,.slice (some ⟨wm.heap.size,0,none⟩) 2 2,.slice none 0 0] rfl rfl 40 _ HFa.out.box aU (by rfl) (by simp[Value.oneCell']) ?_;refine hK.out _ _ (HFin.out.cell) (fun hHeld=>?_);clear hK K
   try simp only[lay]
   refine wpAnyH_done (by kernel_rfl) ?_ _;go_wp2_with fail
   exact bodyPost_ret (v:= .agg #[.int .u16 0,.int .u16 0,.int .u16 0,.int .u16 0,.int .u16 0,.int .u16 0,.int .u16 0,.int .u16 0,.int .u16 I.en,.int .u16 2,.int .u16 0,.int .u16 0,.int .i64 0,.int .i64 0,.int .i64 0,.int .i64 0,.string zeros,.slice (some ⟨wm.heap.size,0,none⟩) 2 2,.slice none 0 0]) (results_cell_row rfl _ _ (n+1) 40 _ (0,0) _ rfl HFin.out.res Tryz.underlying40 rfl aU) rfl (by rw[HN.out];exact⟨⟨_,HFin.out.frm _ rfl,rfl,HFin.out.snh,HFin.out.blk⟩,HFin.out.bel⟩)
  ·go_simp
   have HFa:=Nc (HFm.out.next ((Below.refl _ _).alloc (Nat.le_refl _) (.cells #[.int .u16 0,.int .u16 65535] 29)));have HGa:=Nc (heap_alloc_new wm (.cells #[.int .u16 0,.int .u16 65535] 29));refine hK.out _ _ (HFa.out.cell) (fun hHeld=>?_);clear hK K
   try simp only[lay]
   refine wpAnyH_ready (rs:=[4]) (by kernel_rfl) (by simp) ?_;refine(AllReadyH.cons rfl (fun K hK=>?_) AllReadyH.nil);refine Eq.mpr (if_pos (by rfl)) ?_;refine tJ rfl rfl (nX (gG HRm.out ((Below.refl _ _).alloc (Nat.le_refl _) _))) ?_;refine hK.out _ _ (HFa.out.cell) (fun hHeld=>?_);clear hK K
   try simp only[lay]
   refine rd1 6 rfl (fun K hK=>?_);refine Eq.mpr (if_pos (by rfl)) ?_;refine dK 40 _ rfl [(0,.agg #[.int .u16 0,.int .u16 0,.int .u16 0,.int .u16 0,.int .u16 0,.int .u16 0,.int .u16 0,.int .u16 0,.int .u16 I.en,.int .u16 2,.int .u16 0,.int .u16 0,.int .i64 0,.int .i64 0,.int .i64 0,.int .i64 0]),(1,.string zeros),(2,.slice (some ⟨wm.heap.size,0,none⟩) 2 2)] (by simp only[List.map_toArray,List.map_cons,List.map_nil];rfl) (kG I.en zeros _ 2 2) ?_;refine hK.out _ _ (HFa.out.cell) (fun hHeld=>?_);clear hK K
   try simp only[lay]
   have HFin:=Nc (uk HFa.out HGa.out (g:=wm.heap.size) HFm.out.lt);refine rd1 7 rfl (fun K hK=>?_);refine Eq.mpr (if_pos (by rfl)) ?_;refine wp_store_row 40 _ _ rfl (n+1) #[.int .u16 0,.int .u16 0,.int .u16 0,.int .u16 0,.int .u16 0,.int .u16 0,.int .u16 0,.int .u16 0,.int .u16 I.en,.int .u16 2,.int .u16 0,.int .u16 0,.int .i64 0,.int .i64 0,.int .i64 0,.int .i64 0,.string zeros,.slice (some ⟨wm.heap.size,0,none⟩) 2 2,.slice none 0 0] rfl rfl 40 _ HFa.out.box aU (by rfl) (by simp[Value.oneCell']) ?_;refine hK.out _ _ (HFin.out.cell) (fun hHeld=>?_);clear hK K
   try simp only[lay]
   refine wpAnyH_done (by kernel_rfl) ?_ _;go_wp2_with fail
   exact bodyPost_ret (v:= .agg #[.int .u16 0,.int .u16 0,.int .u16 0,.int .u16 0,.int .u16 0,.int .u16 0,.int .u16 0,.int .u16 0,.int .u16 I.en,.int .u16 2,.int .u16 0,.int .u16 0,.int .i64 0,.int .i64 0,.int .i64 0,.int .i64 0,.string zeros,.slice (some ⟨wm.heap.size,0,none⟩) 2 2,.slice none 0 0]) (results_cell_row rfl _ _ (n+1) 40 _ (0,0) _ rfl HFin.out.res Tryz.underlying40 rfl aU) rfl (by rw[HN.out];exact⟨⟨_,HFin.out.frm _ rfl,rfl,HFin.out.snh,HFin.out.blk⟩,HFin.out.bel⟩)
 ·go_simp
  have HFa:=Nc (HFd.out.next ((Below.refl _ _).alloc (Nat.le_refl _) (.cells #[.int .u16 0,.int .u16 65535] 29)));have HGa:=Nc (heap_alloc_new wd (.cells #[.int .u16 0,.int .u16 65535] 29));refine hK.out _ _ (HFa.out.cell) (fun hHeld=>?_);clear hK K
  try simp only[lay]
  refine wpAnyH_ready (rs:=[3]) (by kernel_rfl) (by simp) ?_;refine(AllReadyH.cons rfl (fun K hK=>?_) AllReadyH.nil);refine Eq.mpr (if_pos (by rfl)) ?_;refine jC _ _ _ 41 rfl 0 5 i0 (.int .u8 0) 1 Tryz.underlying41 hi hz0 hz1 .i64 .i64 8192 rfl rfl (by rw[hz2];decide) (by decide) (Nat.zero_le _) ?_;intro wm hown hgr;have HGm:=Nc (af HGa.out (below_of_grown hgr));have hbm:=below_of_grown hgr;have HRm:=Nc (uM hown);have HFm:=Nc (HFa.out.next hbm);have hzm:=hbm.size;clear hown hgr hbm;refine hK.out _ _ (HFm.out.cell) (fun hHeld=>?_);clear hK K
  try simp only[lay]
  refine wpAnyH_ready (rs:=[4]) (by kernel_rfl) (by simp) ?_;refine(AllReadyH.cons rfl (fun K hK=>?_) AllReadyH.nil);refine Eq.mpr (if_pos (by rfl)) ?_;refine tJ rfl rfl (nX HRm.out) ?_;refine hK.out _ _ (HFm.out.cell) (fun hHeld=>?_);clear hK K
  try simp only[lay]
  refine rd1 6 rfl (fun K hK=>?_);refine Eq.mpr (if_pos (by rfl)) ?_;refine dK 40 _ rfl [(0,.agg #[.int .u16 0,.int .u16 0,.int .u16 0,.int .u16 0,.int .u16 0,.int .u16 0,.int .u16 0,.int .u16 0,.int .u16 I.en,.int .u16 2,.int .u16 0,.int .u16 0,.int .i64 0,.int .i64 0,.int .i64 0,.int .i64 0]),(1,.string zeros),(2,.slice (some ⟨wd.heap.size,0,none⟩) 2 2)] (by simp only[List.map_toArray,List.map_cons,List.map_nil];rfl) (kG I.en zeros _ 2 2) ?_;refine hK.out _ _ (HFm.out.cell) (fun hHeld=>?_);clear hK K
  try simp only[lay]
  have HFin:=Nc (uk HFm.out HGm.out (g:=wd.heap.size) HFd.out.lt);refine rd1 7 rfl (fun K hK=>?_);refine Eq.mpr (if_pos (by rfl)) ?_;refine wp_store_row 40 _ _ rfl (n+1) #[.int .u16 0,.int .u16 0,.int .u16 0,.int .u16 0,.int .u16 0,.int .u16 0,.int .u16 0,.int .u16 0,.int .u16 I.en,.int .u16 2,.int .u16 0,.int .u16 0,.int .i64 0,.int .i64 0,.int .i64 0,.int .i64 0,.string zeros,.slice (some ⟨wd.heap.size,0,none⟩) 2 2,.slice none 0 0] rfl rfl 40 _ HFm.out.box aU (by rfl) (by simp[Value.oneCell']) ?_;refine hK.out _ _ (HFin.out.cell) (fun hHeld=>?_);clear hK K
  try simp only[lay]
  refine wpAnyH_done (by kernel_rfl) ?_ _;go_wp2_with fail
  exact bodyPost_ret (v:= .agg #[.int .u16 0,.int .u16 0,.int .u16 0,.int .u16 0,.int .u16 0,.int .u16 0,.int .u16 0,.int .u16 0,.int .u16 I.en,.int .u16 2,.int .u16 0,.int .u16 0,.int .i64 0,.int .i64 0,.int .i64 0,.int .i64 0,.string zeros,.slice (some ⟨wd.heap.size,0,none⟩) 2 2,.slice none 0 0]) (results_cell_row rfl _ _ (n+1) 40 _ (0,0) _ rfl HFin.out.res Tryz.underlying40 rfl aU) rfl (by rw[HN.out];exact⟨⟨_,HFin.out.frm _ rfl,rfl,HFin.out.snh,HFin.out.blk⟩,HFin.out.bel⟩)
theorem cu (P:Program) (w:World) (d:Nat) (xs ys:Array Value) (f:Field) (fs:List Field) (k:IntKind) (a b:Int) (hn:(f.name == "_")=false) (hu:P.underlying f.type=some (.int k))
  (hx:(Go.part f.type xs f.offset).run P w= .ok (.int k a) w) (hy:(Go.part f.type ys f.offset).run P w= .ok (.int k b) w):
  (Op.eqFields (d+1) xs ys (f::fs)).run P w=if a=b then(Op.eqFields (d+1) xs ys fs).run P w else .ok false w:=by
 have hn':f.name≠ "_" :=by simpa using hn
 simp only[Op.eqFields,hn',ne_eq,not_false_eq_true,if_true,Sem.run_bind,hx,hy,Result.andThen_ok,run_equalIn_int w d _ _ _ _ _ hu];by_cases h:a=b
 ·simp[h]
 ·simp[h,Sem.run_pure]
theorem sO:(Tryz.prog.fieldsOf 81).toList.map (fun f=>(f.name == "_",f.type,f.offset))=[(false,29,0),(false,29,1)]:=by kernel_rfl
theorem DY(b a c d:Int)(w:World):(Op.equalIn 10000 81 (.agg #[.int .u16 b,.int .u16 a]) (.agg #[.int .u16 c,.int .u16 d])).run Tryz.prog w= .ok (decide (b=c∧a=d)) w:=by
 rw[run_equalIn_struct w 9999 81 _ _ (by kernel_rfl) (by kernel_rfl)];obtain⟨f0,f1,hf⟩:∃ f0 f1,(Tryz.prog.fieldsOf 81).toList=[f0,f1]:=by
  have h:=congrArg List.length sO;simp only[List.length_map] at h;generalize (Tryz.prog.fieldsOf 81).toList=l at h
  match l,h with
  | [f0,f1],_=>exact⟨f0,f1,rfl⟩
 have h:=sO;rw[hf] at h⊢;simp only[List.map_cons,List.map_nil,List.cons.injEq,Prod.mk.injEq,and_true] at h;obtain⟨⟨n0,t0,o0⟩,⟨n1,t1,o1⟩⟩:=h;rw[cu Tryz.prog w 9998 _ _ f0 _ .u16 b c n0 (by rw[t0];exact Tryz.underlying29) (by rw[t0,o0];kernel_rfl) (by rw[t0,o0];kernel_rfl),
  cu Tryz.prog w 9998 _ _ f1 _ .u16 a d n1 (by rw[t1];exact Tryz.underlying29) (by rw[t1,o1];kernel_rfl) (by rw[t1,o1];kernel_rfl)]
 (repeat' split)<;>simp_all [Op.eqFields,Sem.run_pure]
theorem Dc(b a c d:Int)(w:World):(binOp .neq 81 (.agg #[.int .u16 b,.int .u16 a]) (.agg #[.int .u16 c,.int .u16 d])).run Tryz.prog w= .ok (.bool (!decide (b=c∧a=d))) w:=by
 rw[run_neq_struct,DY];rfl
theorem sN:(Tryz.prog.fieldsOf 47).toList.map (fun f=>(f.name == "_",f.type,f.offset))=[(false,3,0),(false,29,1)]:=by kernel_rfl
theorem wK(b a c d:Int)(w:World):(Op.equalIn 10000 47 (.agg #[.int .i64 b,.int .u16 a]) (.agg #[.int .i64 c,.int .u16 d])).run Tryz.prog w= .ok (decide (b=c∧a=d)) w:=by
 rw[run_equalIn_struct w 9999 47 _ _ (by kernel_rfl) (by kernel_rfl)];obtain⟨f0,f1,hf⟩:∃ f0 f1,(Tryz.prog.fieldsOf 47).toList=[f0,f1]:=by
  have h:=congrArg List.length sN;simp only[List.length_map] at h;generalize (Tryz.prog.fieldsOf 47).toList=l at h
  match l,h with
  | [f0,f1],_=>exact⟨f0,f1,rfl⟩
 have h:=sN;rw[hf] at h⊢;simp only[List.map_cons,List.map_nil,List.cons.injEq,Prod.mk.injEq,and_true] at h;obtain⟨⟨n0,t0,o0⟩,⟨n1,t1,o1⟩⟩:=h;rw[cu Tryz.prog w 9998 _ _ f0 _ .i64 b c n0 (by rw[t0];exact Tryz.underlying3) (by rw[t0,o0];kernel_rfl) (by rw[t0,o0];kernel_rfl),
  cu Tryz.prog w 9998 _ _ f1 _ .u16 a d n1 (by rw[t1];exact Tryz.underlying29) (by rw[t1,o1];kernel_rfl) (by rw[t1,o1];kernel_rfl)]
 (repeat' split)<;>simp_all [Op.eqFields,Sem.run_pure]
theorem uC(b a c d:Int)(w:World):(binOp .eql 47 (.agg #[.int .i64 b,.int .u16 a]) (.agg #[.int .i64 c,.int .u16 d])).run Tryz.prog w= .ok (.bool (decide (b=c∧a=d))) w:=by
 rw[run_eql_struct,wK];rfl
theorem Jh(l:List (Int × Int)):∀ (k:Nat) (e:Int × Int),l[k]? =some e→(evC l)[k*2]? =some (.int .u16 e.1)∧(evC l)[k*2+1]? =some (.int .u16 e.2):=by
 induction l with
 | nil=>intro k e h;simp at h
 | cons x l ih=>
  intro k e h;cases k with
  | zero=>simp at h;subst h;exact⟨rfl,rfl⟩
  | succ k=>
   have h2:=ih k e (by simpa using h);have e1:(k+1)*2=k*2+2:=by omega
   rw[e1];exact h2
theorem Sl.ev{w:World}{p:Option Addr}{l:List (Int × Int)}(h:Sl w p (evC l)){k:Nat}{e:Int × Int}(hk:l[k]? =some e):∃ g,p=some ⟨g,0,none⟩∧w.cell? ⟨g,k*2,none⟩=some (.int .u16 e.1)∧w.cell? ⟨g,k*2+1,none⟩=some (.int .u16 e.2):=by
 obtain⟨c0,c1⟩:=Jh l k e hk;obtain⟨g,hp,h0⟩:=h _ _ c0;obtain⟨g1,hp1,h1⟩:=h _ _ c1;rw[hp] at hp1;injection hp1 with e1;injection e1 with e1;subst e1;exact⟨g,hp,h0,h1⟩
theorem vY{α:Type}{l m:List α}{n:Nat}(h1:l.length=n)(h2:m.length=n)(h:∀ j,j < n→l[j]? =m[j]?):l=m:=by
 refine List.ext_getElem? fun j=>?_
 by_cases hj:j < n
 ·exact h j hj
 ·rw[List.getElem?_eq_none (by omega),List.getElem?_eq_none (by omega)]
theorem Dj{α:Type}{l m:List α}{k:Nat}(h:¬ l[k]? =m[k]?):¬ l=m:=fun e=>h (by rw[e])
set_option maxHeartbeats 2000000 in
theorem qO(l m:List (Int × Int))(p q:Option Addr)(c d:Nat)(w:World)(hl:Sl w p (evC l))(hm:Sl w q (evC m))(hn:l.length≤1000000000)(hn2:m.length≤1000000000):
  Calls Tryz.prog 30 #[.slice p l.length c,.slice q m.length d] w fun e w'=>e= .returned (.bool (decide (l=m)))∧Below w.heap.size w w':=by
 have HL:=Nc hl;have HM:=Nc hm;clear hl hm;obtain⟨n,h1⟩:∃ n,l.length=n:=⟨_,rfl⟩;obtain⟨n2,h2⟩:∃ n,m.length=n:=⟨_,rfl⟩;have H1:=Nc h1;have H2:=Nc h2;rw[h1] at hn;rw[h2] at hn2;rw[h1,h2];clear h1 h2;by_cases hne:n=n2
 ·subst hne
  clear hn2;go_enter Tryz.func30,Tryz.ntmps30
  go_wp2_with fail
  go_loopw [5] (fun i wr=>∃ k:Nat,k≤n∧i= .int .i64 k∧Hid ((∀ j,j < k→l[j]? =m[j]?)∧Below w.heap.size w wr)) (fun i _=>n-(intOf i).toNat)
  case atStart=>exact⟨0,Nat.zero_le _,rfl,Nc ⟨fun j hj=>absurd hj (by omega),Below.refl _ _⟩⟩
  case round=>
   obtain⟨k,hk,rfl,HK⟩:=hrel;by_cases hlt:k < n
   ·have hk1:(k:Int) < (n:Int):=by omega
    have hk0:(0:Int)≤(k:Int):=by omega
    have hl1:k < l.length:=by rw[H1.out];exact hlt
    have hl2:k < m.length:=by rw[H2.out];exact hlt
    obtain⟨s,hs⟩:∃ s,l[k]? =some s:=⟨_,List.getElem?_eq_getElem hl1⟩;obtain⟨t,ht⟩:∃ t,m[k]? =some t:=⟨_,List.getElem?_eq_getElem hl2⟩;obtain⟨g1,hp1,e0,e1⟩:=(HL.out.below HK.out.2).ev hs;obtain⟨g2,hp2,f0,f1⟩:=(HM.out.below HK.out.2).ev ht;subst hp1;subst hp2;have HA1:=Nc hs;have HA2:=Nc ht;clear hs ht hl1 hl2;by_cases hst:s=t
    ·subst hst
     have HQ:=Nc (show l[k]? =m[k]? by rw[HA1.out,HA2.out]);clear HA1 HA2;obtain⟨sb,so⟩:=s
     try simp only at e0 e1 f0 f1
     have heq:=Dc sb so sb so;rw[show(!decide (sb=sb∧so=so))=false by simp] at heq;go_wp2_with fail
     go_quiet (fail)
     go_wp2_with fail
     go_roundw
     case rel=>exact⟨k+1,by omega,by go_num,Nc ⟨fun j hj=>by
      by_cases e:j=k
      ·subst e;exact HQ.out
      ·exact HK.out.1 j (by omega),below_drewN HK.out.2⟩⟩
     case measure=>simp[intOf];omega
    ·have HQ:=Nc (show ¬ l=m from Dj (k:=k) (by rw[HA1.out,HA2.out];simpa using hst))
     clear HA1 HA2;obtain⟨sb,so⟩:=s;obtain⟨tb,tr⟩:=t
     try simp only at e0 e1 f0 f1
     have heq:=Dc sb so tb tr;rw[show(!decide (sb=tb∧so=tr))=true by simp only[Prod.mk.injEq] at hst;simp only[hst,decide_false,Bool.not_false]] at heq;clear hst;go_wp2_with fail
     go_quiet (fail)
     go_wp2_with fail
     go_ret
     exact⟨BJ (decide_eq_false HQ.out).symm,below_drewN HK.out.2⟩
   ·obtain rfl:k=n:=by omega
    have HX:=Nc (vY H1.out H2.out HK.out.1);go_wp2_with fail
    go_ret
    exact⟨BJ (decide_eq_true HX.out).symm,HK.out.2⟩
 ·have hne1:¬ ((n:Int)=(n2:Int)):=by omega
  have hne2:((n:Int)==(n2:Int))=false:=by simpa using hne1
  have HX:=Nc (show ¬ l=m from fun e=>hne (by rw[← H1.out,← H2.out,e]));go_enter Tryz.func30,Tryz.ntmps30
  go_wp2_with fail
  go_ret
  exact⟨BJ (decide_eq_false HX.out).symm,Below.refl _ _⟩
end Go.Proofs.YthkcloapiefggaaGreatDoor
