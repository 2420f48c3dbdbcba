import Derived.Test.YthkcloapiefggaaGreatDoorQBrn
namespace Go.Proofs.YthkcloapiefggaaGreatDoor
set_option linter.unusedVariables false
set_option linter.unusedSimpArgs false
set_option maxRecDepth 100000
set_option maxHeartbeats 1000000
open Go.ChangeShapes Go.WideShapes Go.RowKit
def ok1(I:Im)(b a:Int)(k:Nat):Bool:=nxB b a k && gU I b (a+k)
def DP(I:Im)(b a:Int)(n:Nat)(e:Ending):Prop:=match (List.range n).find? fun k=> !ok1 I b a k with | none=>e= .returned (.tuple #[]) | some k=>e= .panicked (dQ 2 ((a+k)%65536))
theorem wF{I:Im}{b a:Int}{n:Nat}(h:∀ j,j < n→ok1 I b a j=true):(List.range n).find? (fun k=> !ok1 I b a k)=none:=by
 rw[List.find?_eq_none];intro x hx;rw[h x (List.mem_range.1 hx)];decide
theorem qN{I:Im}{b a:Int}{n k:Nat}(hk:k < n)(h:∀ j,j < k→ok1 I b a j=true)(hb:ok1 I b a k=false):(List.range n).find? (fun k=> !ok1 I b a k)=some k:=
 iT _ n k hk (by simp[hb]) (fun j hj=>by simp[h j hj])
theorem DP.y{I:Im}{b a:Int}{n:Nat}{e:Ending}(h:∀ j,j < n→ok1 I b a j=true)(he:e= .returned (.tuple #[])):DP I b a n e:=by unfold DP;rw[wF h];exact he
theorem DP.n{I:Im}{b a:Int}{n k:Nat}{e:Ending}(hk:k < n)(h:∀ j,j < k→ok1 I b a j=true)(hb:ok1 I b a k=false)(he:e= .panicked (dQ 2 ((a+k)%65536))):DP I b a n e:=by unfold DP;rw[qN hk h hb];exact he
theorem Ko{b a:Int}{k:Nat}(a0:0≤a)(h:nxB b a k=true):0≤a+k∧a+k < 8192:=by
 rw[qw] at h;simp only[Bool.and_eq_true,decide_eq_true_eq] at h;obtain⟨l0,l1,l2,l3,l4,l5⟩:=jo b a a0 h.1.1;exact⟨by omega,by omega⟩
theorem qP(E:Env)(ov:Value)(S:Ms)(b a:Int)(n:Nat)(w:World)(h:Mc E ov S w)(ha:U16 a)(hn:n≤255):
  Calls Tryz.prog 105 #[.pointer (some ⟨E.b,0,none⟩),.agg #[.int .i64 b,.int .u16 a],.int .i64 n] w fun e w'=>DP E.I b a n e∧Below w.heap.size w w':=by
 obtain⟨a0,a1⟩:=ha;have HN:=Nc (fun W (k:Nat) (hk:k≤255)=>next_any b a k W a0 a1 (by unfold yY;omega) (by unfold yZ;omega));have HO:=Nc (fun W (x y:Int) (hw:Mc E ov S W) (y0:0≤y) (y1:y < 65536)=>uq E.P E.I x y W h.env.I hw.has y0 y1);unfold imV at HO;have hA:=h.alloc (.cells #[.int .i64 b,.int .u16 a] 77);have hnw:=heap_alloc_new w (.cells #[.int .i64 b,.int .u16 a] 77);have HI:=Nc (And.intro (ae hnw 0 (.int .i64 b) rfl) (ae hnw 1 (.int .u16 a) rfl));have HB:=Nc ((Below.refl _ w).alloc (Nat.le_refl _) (.cells #[.int .i64 b,.int .u16 a] 77));have H:=Nc hA;have hlt:w.heap.size < (w.alloc (.cells #[.int .i64 b,.int .u16 a] 77)).heap.size:=by simp
 have HLt:=Nc hlt;have hn':(n:Int)≤255:=by omega
 clear h hA hnw hlt;go_enter Tryz.func105,Tryz.ntmps105
 go_wp2_with fail
 go_loopw [13] (fun i wr=>∃ k:Nat,k≤n∧i= .int .i64 k∧Hid (Mc E ov S wr∧Below w.heap.size w wr∧w.heap.size < wr.heap.size∧wr.cell? ⟨w.heap.size,0,none⟩=some (.int .i64 b)∧wr.cell? ⟨w.heap.size,1,none⟩=some (.int .u16 a))∧Hid (∀ j,j < k→ok1 E.I b a j=true)) (fun i _=>n-(intOf i).toNat)
 case atStart=>exact⟨0,Nat.zero_le _,rfl,Nc ⟨H.out,HB.out,HLt.out,HI.out.1,HI.out.2⟩,Nc (fun j hj=>absurd hj (Nat.not_lt_zero _))⟩
 case round=>
  obtain⟨k,hk,rfl,HK,HA⟩:=hrel;obtain⟨hm,hbw,hsz,e0,e1⟩:=HK.out;clear hm hbw hsz;by_cases hlt:k < n
  ·have hlt':(k:Int) < (n:Int):=by omega
   have hok:ok1 E.I b a k=(nxB b a k && gU E.I b (a+k)):=rfl;have HOK:=Nc hok;have hin:=Nc (fun (hh:nxB b a k=true)=>Ko a0 hh);have HNk:=Nc (fun W=>HN.out W k (by omega));have hw1:IntKind.u16.wrap (k:Int)=k:=by rw[IntKind.wrap_u16];omega
   have hw2:IntKind.u16.wrap (a+k)=(a+k)%65536:=IntKind.wrap_u16 _;obtain⟨B,hB⟩:∃ B,nxB b a k=B:=⟨_,rfl⟩;rw[hB] at HNk HOK hin;clear hok hB;cases B
   ·unfold nxV at HNk
    rw[if_neg (by decide),if_neg (by decide)] at HNk;have HOk:=Nc (fun W (hw:Mc E ov S W)=>HO.out W 0 0 hw (by decide) (by decide));have HV:=Nc (show ok1 E.I b a k=false by rw[HOK.out];simp);obtain⟨r,hr⟩:∃ r,gU E.I 0 0=r:=⟨_,rfl⟩;rw[hr] at HOk;clear hr;go_wp2_with fail
    refine(HNk.out _).mono ?_;rintro e w1 ⟨rfl,hb1⟩;have M1:=Nc ((HK.out.1.kept hb1).alloc (.cells #[.int .i64 0,.int .u16 0] 77));have Z1:=Nc (show Below wr.heap.size wr (w1.alloc (.cells #[.int .i64 0,.int .u16 0] 77)) from hb1.alloc hb1.size _);have hnw:=heap_alloc_new w1 (.cells #[.int .i64 0,.int .u16 0] 77);obtain⟨pb,hpb⟩:∃ pb,w1.heap.size=pb:=⟨_,rfl⟩;rw[hpb] at hnw;have HPl:=Nc (And.intro (ae hnw 0 (.int .i64 0) rfl) (ae hnw 1 (.int .u16 0) rfl));have hpl:pb < (w1.alloc (.cells #[.int .i64 0,.int .u16 0] 77)).heap.size:=by simp;omega
    have HPb:=Nc hpl;clear hb1 hnw e0 e1 hpl;go_wp2_with fail
    try rw[hpb]
    obtain⟨W1,hW1⟩:∃ W1,w1.alloc (.cells #[.int .i64 0,.int .u16 0] 77)=W1:=⟨_,rfl⟩;rw[hW1] at M1 Z1 HPl HPb⊢;clear hW1 hpb;have hS1:=Nc (show(fun w'=>w'.cell? ⟨E.b,0,none⟩=some (.slice E.P.p0 E.I.banks.length E.P.c0)∧w'.cell? ⟨E.b,1,none⟩=some (.int .u16 E.I.en)∧w'.cell? ⟨E.b,2,none⟩=some (.int .u16 E.I.ve)∧w'.cell? ⟨E.b,3,none⟩=some (.slice E.P.p1 E.I.data.length E.P.c1)∧w'.cell? ⟨E.b,4,none⟩=some (.slice E.P.p2 E.I.rel.length E.P.c2)∧w'.cell? ⟨pb,0,none⟩=some (.int .i64 0)∧w'.cell? ⟨pb,1,none⟩=some (.int .u16 0)) W1.drew from⟨M1.out.cI.1,M1.out.cI.2.1,M1.out.cI.2.2.1,M1.out.cI.2.2.2.1,M1.out.cI.2.2.2.2,HPl.out.1,HPl.out.2⟩);refine wp_region_held_drew (S:=fun w'=>w'.cell? ⟨E.b,0,none⟩=some (.slice E.P.p0 E.I.banks.length E.P.c0)∧w'.cell? ⟨E.b,1,none⟩=some (.int .u16 E.I.en)∧w'.cell? ⟨E.b,2,none⟩=some (.int .u16 E.I.ve)∧w'.cell? ⟨E.b,3,none⟩=some (.slice E.P.p1 E.I.data.length E.P.c1)∧w'.cell? ⟨E.b,4,none⟩=some (.slice E.P.p2 E.I.rel.length E.P.c2)∧w'.cell? ⟨pb,0,none⟩=some (.int .i64 0)∧w'.cell? ⟨pb,1,none⟩=some (.int .u16 0)) (by kernel_rfl) (hS1.out) (fun hHeld=>?_);refine tq 0 rfl ?_;refine tq 1 rfl ?_;refine tq 2 rfl ?_;refine tq 3 rfl ?_;refine tq 4 rfl ?_;refine rd1 5 rfl (fun K hK=>?_);go_simp
    ((go_at_call 134;(with_reducible refine(HOk.out _ M1.out.drew).mono ?_));rintro e w2 ⟨rfl,hb2⟩;have M2:=Nc (M1.out.drew.kept hb2);have Z2:=Nc (Z1.out.trans (Below.trans (Below.refl _ W1).drew (hb2.mono Z1.out.size)));have K2:=Nc (show(fun w'=>w'.cell? ⟨E.b,0,none⟩=some (.slice E.P.p0 E.I.banks.length E.P.c0)∧w'.cell? ⟨E.b,1,none⟩=some (.int .u16 E.I.en)∧w'.cell? ⟨E.b,2,none⟩=some (.int .u16 E.I.ve)∧w'.cell? ⟨E.b,3,none⟩=some (.slice E.P.p1 E.I.data.length E.P.c1)∧w'.cell? ⟨E.b,4,none⟩=some (.slice E.P.p2 E.I.rel.length E.P.c2)∧w'.cell? ⟨pb,0,none⟩=some (.int .i64 0)∧w'.cell? ⟨pb,1,none⟩=some (.int .u16 0)) w2 from⟨M2.out.cI.1,M2.out.cI.2.1,M2.out.cI.2.2.1,M2.out.cI.2.2.2.1,M2.out.cI.2.2.2.2,(hb2.cell (p:=⟨pb,0,none⟩) HPb.out).trans HPl.out.1,(hb2.cell (p:=⟨pb,1,none⟩) HPb.out).trans HPl.out.2⟩);clear hb2)
    go_wp2_with fail
    refine hK.out _ _ (K2.out) (fun hHeld=>?_);clear hK K
    try simp only[lay]
    refine tq 6 rfl ?_;refine tq 7 rfl ?_;refine tq 8 rfl ?_;refine tq 9 rfl ?_;refine tq 10 rfl ?_;refine tq 11 rfl ?_;refine tq 12 rfl ?_;refine wpAnyH_done (by kernel_rfl) ?_ _;have f0:w2.cell? ⟨w.heap.size,0,none⟩=some (.int .i64 b):=(Z2.out.cell (p:=⟨w.heap.size,0,none⟩) HK.out.2.2.1).trans HK.out.2.2.2.1;have f1:w2.cell? ⟨w.heap.size,1,none⟩=some (.int .u16 a):=(Z2.out.cell (p:=⟨w.heap.size,1,none⟩) HK.out.2.2.1).trans HK.out.2.2.2.2;have BB:=Nc (HK.out.2.1.trans (Z2.out.mono (by have:=HK.out.2.2.1;omega)));have F0:=Nc (And.intro f0 f1);have SZ:=Nc (Nat.lt_of_lt_of_le HK.out.2.2.1 Z2.out.size);go_wp2_with fail
    refine(bH _ _ _).mono ?_;rintro e w3 ⟨rfl,rfl⟩;go_wp2_with fail
    exact⟨rfl,DP.n hlt HA.out HV.out rfl,BB.out⟩
   ·unfold nxV at HNk
    have hin2:=hin.out rfl;rw[if_pos rfl,if_pos rfl] at HNk;have HOk:=Nc (fun W (hw:Mc E ov S W)=>HO.out W b (a+k) hw hin2.1 (by omega));have HV:=Nc (show ok1 E.I b a k=gU E.I b (a+k) by rw[HOK.out];simp);obtain⟨r,hr⟩:∃ r,gU E.I b (a+k)=r:=⟨_,rfl⟩;rw[hr] at HOk HV;clear hr;go_wp2_with fail
    refine(HNk.out _).mono ?_;rintro e w1 ⟨rfl,hb1⟩;have M1:=Nc ((HK.out.1.kept hb1).alloc (.cells #[.int .i64 b,.int .u16 (a+k)] 77));have Z1:=Nc (show Below wr.heap.size wr (w1.alloc (.cells #[.int .i64 b,.int .u16 (a+k)] 77)) from hb1.alloc hb1.size _);have hnw:=heap_alloc_new w1 (.cells #[.int .i64 b,.int .u16 (a+k)] 77);obtain⟨pb,hpb⟩:∃ pb,w1.heap.size=pb:=⟨_,rfl⟩;rw[hpb] at hnw;have HPl:=Nc (And.intro (ae hnw 0 (.int .i64 b) rfl) (ae hnw 1 (.int .u16 (a+k)) rfl));have hpl:pb < (w1.alloc (.cells #[.int .i64 b,.int .u16 (a+k)] 77)).heap.size:=by simp;omega
    have HPb:=Nc hpl;clear hb1 hnw e0 e1 hpl;go_wp2_with fail
    try rw[hpb]
    obtain⟨W1,hW1⟩:∃ W1,w1.alloc (.cells #[.int .i64 b,.int .u16 (a+k)] 77)=W1:=⟨_,rfl⟩;rw[hW1] at M1 Z1 HPl HPb⊢;clear hW1 hpb;have hS1:=Nc (show(fun w'=>w'.cell? ⟨E.b,0,none⟩=some (.slice E.P.p0 E.I.banks.length E.P.c0)∧w'.cell? ⟨E.b,1,none⟩=some (.int .u16 E.I.en)∧w'.cell? ⟨E.b,2,none⟩=some (.int .u16 E.I.ve)∧w'.cell? ⟨E.b,3,none⟩=some (.slice E.P.p1 E.I.data.length E.P.c1)∧w'.cell? ⟨E.b,4,none⟩=some (.slice E.P.p2 E.I.rel.length E.P.c2)∧w'.cell? ⟨pb,0,none⟩=some (.int .i64 b)∧w'.cell? ⟨pb,1,none⟩=some (.int .u16 (a+k))) W1.drew from⟨M1.out.cI.1,M1.out.cI.2.1,M1.out.cI.2.2.1,M1.out.cI.2.2.2.1,M1.out.cI.2.2.2.2,HPl.out.1,HPl.out.2⟩);refine wp_region_held_drew (S:=fun w'=>w'.cell? ⟨E.b,0,none⟩=some (.slice E.P.p0 E.I.banks.length E.P.c0)∧w'.cell? ⟨E.b,1,none⟩=some (.int .u16 E.I.en)∧w'.cell? ⟨E.b,2,none⟩=some (.int .u16 E.I.ve)∧w'.cell? ⟨E.b,3,none⟩=some (.slice E.P.p1 E.I.data.length E.P.c1)∧w'.cell? ⟨E.b,4,none⟩=some (.slice E.P.p2 E.I.rel.length E.P.c2)∧w'.cell? ⟨pb,0,none⟩=some (.int .i64 b)∧w'.cell? ⟨pb,1,none⟩=some (.int .u16 (a+k))) (by kernel_rfl) (hS1.out) (fun hHeld=>?_);refine tq 0 rfl ?_;refine tq 1 rfl ?_;refine tq 2 rfl ?_;refine tq 3 rfl ?_;refine tq 4 rfl ?_;refine rd1 5 rfl (fun K hK=>?_);go_simp
    ((go_at_call 134;(with_reducible refine(HOk.out _ M1.out.drew).mono ?_));rintro e w2 ⟨rfl,hb2⟩;have M2:=Nc (M1.out.drew.kept hb2);have Z2:=Nc (Z1.out.trans (Below.trans (Below.refl _ W1).drew (hb2.mono Z1.out.size)));have K2:=Nc (show(fun w'=>w'.cell? ⟨E.b,0,none⟩=some (.slice E.P.p0 E.I.banks.length E.P.c0)∧w'.cell? ⟨E.b,1,none⟩=some (.int .u16 E.I.en)∧w'.cell? ⟨E.b,2,none⟩=some (.int .u16 E.I.ve)∧w'.cell? ⟨E.b,3,none⟩=some (.slice E.P.p1 E.I.data.length E.P.c1)∧w'.cell? ⟨E.b,4,none⟩=some (.slice E.P.p2 E.I.rel.length E.P.c2)∧w'.cell? ⟨pb,0,none⟩=some (.int .i64 b)∧w'.cell? ⟨pb,1,none⟩=some (.int .u16 (a+k))) w2 from⟨M2.out.cI.1,M2.out.cI.2.1,M2.out.cI.2.2.1,M2.out.cI.2.2.2.1,M2.out.cI.2.2.2.2,(hb2.cell (p:=⟨pb,0,none⟩) HPb.out).trans HPl.out.1,(hb2.cell (p:=⟨pb,1,none⟩) HPb.out).trans HPl.out.2⟩);clear hb2)
    go_wp2_with fail
    refine hK.out _ _ (K2.out) (fun hHeld=>?_);clear hK K
    try simp only[lay]
    refine tq 6 rfl ?_;refine tq 7 rfl ?_;refine tq 8 rfl ?_;refine tq 9 rfl ?_;refine tq 10 rfl ?_;refine tq 11 rfl ?_;refine tq 12 rfl ?_;refine wpAnyH_done (by kernel_rfl) ?_ _;have f0:w2.cell? ⟨w.heap.size,0,none⟩=some (.int .i64 b):=(Z2.out.cell (p:=⟨w.heap.size,0,none⟩) HK.out.2.2.1).trans HK.out.2.2.2.1;have f1:w2.cell? ⟨w.heap.size,1,none⟩=some (.int .u16 a):=(Z2.out.cell (p:=⟨w.heap.size,1,none⟩) HK.out.2.2.1).trans HK.out.2.2.2.2;have BB:=Nc (HK.out.2.1.trans (Z2.out.mono (by have:=HK.out.2.2.1;omega)));have F0:=Nc (And.intro f0 f1);have SZ:=Nc (Nat.lt_of_lt_of_le HK.out.2.2.1 Z2.out.size);cases r
    ·go_wp2_with fail
     refine(bH _ _ _).mono ?_;rintro e w3 ⟨rfl,rfl⟩;go_wp2_with fail
     exact⟨rfl,DP.n hlt HA.out HV.out rfl,BB.out⟩
    ·go_wp2_with fail
     refine(dw _ _ _).mono ?_;rintro e w3 ⟨rfl,rfl⟩;go_wp2_with fail
     go_roundw
     case rel=>exact⟨k+1,hlt,by go_num,Nc ⟨M2.out,BB.out,SZ.out,F0.out.1,F0.out.2⟩,Nc (fun j hj=>by rcases(show j < k∨j=k by omega) with c | rfl;exact HA.out j c;exact HV.out)⟩
     case measure=>simp[intOf];omega
  ·have hkn:k=n:=by omega
   subst hkn;go_wp2_with fail
   go_end0
   exact⟨DP.y HA.out rfl,HK.out.2.1⟩
theorem zg{I:Im}{b a:Int}{n:Nat}(hn:1≤n)(ho:gU I b a=true)(hz:(a%4096).toNat+n≤(bk I.banks b.toNat).size)(a0:0≤a):(cdV I b a n).size=n∧∀ j,j < n→ba (cdV I b a n) j=ba (bk I.banks b.toNat) ((a%4096).toNat+j):=by
 rw[kF,if_neg (by rw[ho];simp;omega)];obtain⟨m,hm⟩:∃ m,(a%4096).toNat=m:=⟨_,rfl⟩;obtain⟨s,hs⟩:∃ s,bk I.banks b.toNat=s:=⟨_,rfl⟩;rw[hm,hs] at hz⊢;have hmin:(min (n:Int) (s.size-m:Int)).toNat=n:=by omega
 unfold cdS;rw[hmin];refine⟨by rw[ByteArray.size_extract];omega,fun j hj=>?_⟩;unfold ba;rw[ByteArray.data_extract];simp only[Array.toList_extract,List.extract];rw[List.getElem?_take,if_pos (by omega),List.getElem?_drop]
def FP(x:Ft)(e:Ending):Prop:=match x with | .ok i=>e= .returned (dN i) | .tr k n=>e= .panicked (dQ k n)
theorem FP.y{x:Ft}{i:Ins}{e:Ending}(h:x= .ok i)(he:e= .returned (dN i)):FP x e:=by subst h;exact he
theorem FP.n{x:Ft}{k n:Int}{e:Ending}(h:x= .tr k n)(he:e= .panicked (dQ k n)):FP x e:=by subst h;exact he
theorem DP.yes{I:Im}{b a:Int}{n:Nat}{e:Ending}(h:(List.range n).find? (fun k=> !ok1 I b a k)=none)(hd:DP I b a n e):e= .returned (.tuple #[]):=by unfold DP at hd;rw[h] at hd;exact hd
theorem DP.no{I:Im}{b a:Int}{n k:Nat}{e:Ending}(h:(List.range n).find? (fun k=> !ok1 I b a k)=some k)(hd:DP I b a n e):e= .panicked (dQ 2 ((a+k)%65536)):=by unfold DP at hd;rw[h] at hd;exact hd
theorem Ad{I:Im}{b a:Int}{n:Nat}(h:(List.range n).find? (fun k=> !ok1 I b a k)=none):∀ j,j < n→ok1 I b a j=true:=by
 intro j hj;have:=List.find?_eq_none.1 h j (List.mem_range.2 hj);simpa using this
theorem yP{I:Im}{b a:Int}{k:Nat}(h:ok1 I b a k=true):nxB b a k=true∧gU I b (a+k)=true:=by
 unfold ok1 at h;simpa using h
theorem vW{I:Im}{b a:Int}{n:Nat}(a0:0≤a)(hn:1≤n)(h:∀ j,j < n→ok1 I b a j=true):gU I b a=true∧(a%4096).toNat+n≤(bk I.banks b.toNat).size:=by
 have h0:=(yP (h 0 (by omega))).2;simp only[Int.natCast_zero,Int.add_zero] at h0;obtain⟨x1,x2⟩:=yP (h (n-1) (by omega));rw[qw] at x1;simp only[Bool.and_eq_true,decide_eq_true_eq] at x1;obtain⟨l0,l1,l2,l3,l4,l5⟩:=jo b a a0 x1.1.1;obtain⟨y0,y1,y2⟩:=jM x2;exact⟨h0,by omega⟩
theorem zA{w:World}{g:Nat}{z0 z1 z2 z3 z4 z5 z6:Value}{T:TypeId}(h:w.heap[g]? =some (.cells #[z0,z1,z2,z3,z4,z5,z6] T (0,0)))(v0 v1 v2 v3 v4 v5 v6:Value):
  (((((((w.setCell ⟨g,0,none⟩ v0).setCell ⟨g,1,none⟩ v1).setCell ⟨g,2,none⟩ v2).setCell ⟨g,3,none⟩ v3).setCell ⟨g,4,none⟩ v4).setCell ⟨g,5,none⟩ v5).setCell ⟨g,6,none⟩ v6).heap[g]? =some (.cells #[v0,v1,v2,v3,v4,v5,v6] T (0,0)):=by
 have h1:=bP _ g 0 v0 _ _ _ h;simp only[List.setIfInBounds_toArray,List.set_cons_zero,List.set_cons_succ] at h1;have h2:=bP _ g 1 v1 _ _ _ h1;simp only[List.setIfInBounds_toArray,List.set_cons_zero,List.set_cons_succ] at h2;have h3:=bP _ g 2 v2 _ _ _ h2;simp only[List.setIfInBounds_toArray,List.set_cons_zero,List.set_cons_succ] at h3;have h4:=bP _ g 3 v3 _ _ _ h3;simp only[List.setIfInBounds_toArray,List.set_cons_zero,List.set_cons_succ] at h4;have h5:=bP _ g 4 v4 _ _ _ h4;simp only[List.setIfInBounds_toArray,List.set_cons_zero,List.set_cons_succ] at h5;have h6:=bP _ g 5 v5 _ _ _ h5;simp only[List.setIfInBounds_toArray,List.set_cons_zero,List.set_cons_succ] at h6;have h7:=bP _ g 6 v6 _ _ _ h6;simp only[List.setIfInBounds_toArray,List.set_cons_zero,List.set_cons_succ] at h7;exact h7
theorem kT{B g:Nat}{w w1:World}(h:Below B w w1)(hg:B≤g)(a b c d e f k:Value):
  Below B w (((((((w1.setCell ⟨g,0,none⟩ a).setCell ⟨g,1,none⟩ b).setCell ⟨g,2,none⟩ c).setCell ⟨g,3,none⟩ d).setCell ⟨g,4,none⟩ e).setCell ⟨g,5,none⟩ f).setCell ⟨g,6,none⟩ k):=
 ((((((h.setCell hg _).setCell hg _).setCell hg _).setCell hg _).setCell hg _).setCell hg _).setCell hg _
def S5c(E:Env)(pb:Nat)(b a:Int)(w':World):Prop:=(fun w'=>w'.cell? ⟨E.b,0,none⟩=some (.slice E.P.p0 E.I.banks.length E.P.c0)∧w'.cell? ⟨E.b,1,none⟩=some (.int .u16 E.I.en)∧w'.cell? ⟨E.b,2,none⟩=some (.int .u16 E.I.ve)∧w'.cell? ⟨E.b,3,none⟩=some (.slice E.P.p1 E.I.data.length E.P.c1)∧w'.cell? ⟨E.b,4,none⟩=some (.slice E.P.p2 E.I.rel.length E.P.c2)∧w'.cell? ⟨pb,0,none⟩=some (.int .i64 b)∧w'.cell? ⟨pb,1,none⟩=some (.int .u16 a)) w'
theorem S5c.of{E:Env}{ov:Value}{S:Ms}{pb:Nat}{b a:Int}{W X:World}(h:Mc E ov S W)(h0:W.cell? ⟨pb,0,none⟩=some (.int .i64 b))(h1:W.cell? ⟨pb,1,none⟩=some (.int .u16 a))(hz:Below W.heap.size W X):(fun w'=>w'.cell? ⟨E.b,0,none⟩=some (.slice E.P.p0 E.I.banks.length E.P.c0)∧w'.cell? ⟨E.b,1,none⟩=some (.int .u16 E.I.en)∧w'.cell? ⟨E.b,2,none⟩=some (.int .u16 E.I.ve)∧w'.cell? ⟨E.b,3,none⟩=some (.slice E.P.p1 E.I.data.length E.P.c1)∧w'.cell? ⟨E.b,4,none⟩=some (.slice E.P.p2 E.I.rel.length E.P.c2)∧w'.cell? ⟨pb,0,none⟩=some (.int .i64 b)∧w'.cell? ⟨pb,1,none⟩=some (.int .u16 a)) X:=
 have m:=h.kept hz
 ⟨m.cI.1,m.cI.2.1,m.cI.2.2.1,m.cI.2.2.2.1,m.cI.2.2.2.2,(hz.cell (p:=⟨pb,0,none⟩) (World.block_lt_of_cell? _ _ h0)).trans h0,(hz.cell (p:=⟨pb,1,none⟩) (World.block_lt_of_cell? _ _ h1)).trans h1⟩
set_option maxHeartbeats 40000000 in
theorem fetch_any(E:Env)(ov:Value)(S:Ms)(w:World)(h:Mc E ov S w)(hp:S.pc≠65535):
  Calls Tryz.prog 62 #[.pointer (some ⟨E.b,0,none⟩)] w fun e w'=>FP (dI E.I S) e∧Below w.heap.size w w':=by
 have hF:dI E.I S=if ok1 E.I (plB S S.pc) S.pc 0=false then .tr 2 S.pc else if (row (cbV E.I S S.pc)).z=0 then .tr 3 0 else match (List.range (row (cbV E.I S S.pc)).z.toNat).find? (fun k=> !ok1 E.I (plB S S.pc) S.pc k) with | some k=> .tr 2 (S.pc+k) | none=>if fE (cdV E.I (plB S S.pc) S.pc (row (cbV E.I S S.pc)).z)=0 then .ok (fD (cdV E.I (plB S S.pc) S.pc (row (cbV E.I S S.pc)).z)) else .tr 3 0:=by
  unfold dI;rw[if_neg hp];rfl
 have hcb:cbV E.I S S.pc=ba (bk E.I.banks (plB S S.pc).toNat) (S.pc%4096).toNat:=rfl;have HF:=Nc hF;have HCB:=Nc hcb;have hzz:=oD (cbV E.I S S.pc);have hcb0:=qR E.I S S.pc;obtain⟨a0,a1⟩:=h.ok.pc;have hA:=h.alloc (.cells #[.int .i64 0,.int .i64 0,.int .i64 0,.int .u16 0,.int .u16 0,.int .i64 0,.int .i64 0] 58);have c15:=hA.c15;have hnw:=heap_alloc_new w (.cells #[.int .i64 0,.int .i64 0,.int .i64 0,.int .u16 0,.int .u16 0,.int .i64 0,.int .i64 0] 58);have HI:=Nc hnw;have HB0:=Nc ((Below.refl _ w).alloc (Nat.le_refl _) (.cells #[.int .i64 0,.int .i64 0,.int .i64 0,.int .u16 0,.int .u16 0,.int .i64 0,.int .i64 0] 58));have HA:=Nc hA;have HEI:=Nc h.env.I;have HP:=Nc (oG E ov S S.pc _ hA h.ok.pc);obtain⟨b,hb⟩:∃ b,plB S S.pc=b:=⟨_,rfl⟩;obtain⟨cv,hcv⟩:∃ cv,cbV E.I S S.pc=cv:=⟨_,rfl⟩;obtain⟨a,ha⟩:∃ a,S.pc=a:=⟨_,rfl⟩;rw[hb,hcv,ha] at HF HCB;rw[hcv] at hzz hcb0;rw[ha] at a0 a1 c15;rw[hb,ha] at HP;obtain⟨X,hX⟩:∃ X,dI E.I S=X:=⟨_,rfl⟩;rw[hX] at HF⊢;have HAP:=Nc (show U16 a from⟨a0,a1⟩);clear h hA hnw hX hb hcv ha hF hcb hp;go_enter Tryz.func62,Tryz.ntmps62
 go_wp2_with fail
 refine HP.out.mono ?_;rintro e w1 ⟨rfl,hb1⟩;have M1:=Nc (HA.out.kept hb1);have Z1:=Nc (HB0.out.trans (hb1.mono HB0.out.size));have I1:=Nc ((hb1.block _ (lt_of_block HI.out)).trans HI.out);have M2:=Nc (M1.out.alloc (.cells #[.int .i64 b,.int .u16 a] 77));have Z2:=Nc (Z1.out.alloc Z1.out.size (.cells #[.int .i64 b,.int .u16 a] 77));have hn2:=heap_alloc_new w1 (.cells #[.int .i64 b,.int .u16 a] 77);have I2:=Nc (aj _ (.cells #[.int .i64 b,.int .u16 a] 77) _ I1.out);obtain⟨pb,hpb⟩:∃ pb,w1.heap.size=pb:=⟨_,rfl⟩;rw[hpb] at hn2;have P2:=Nc (And.intro (ae hn2 0 (.int .i64 b) rfl) (ae hn2 1 (.int .u16 a) rfl));clear hb1 hn2 c15 HP HB0 HA HI;obtain⟨p0,p1⟩:=P2.out;go_wp2_with fail
 obtain⟨W2,hW2⟩:∃ W2,w1.alloc (.cells #[.int .i64 b,.int .u16 a] 77)=W2:=⟨_,rfl⟩;rw[hW2] at M2 Z2 I2 P2 p0 p1
 try rw[hW2]
 try rw[hpb]
 clear hW2 hpb p0 p1;have HD:=Nc (fun (n:Nat) (hn:n≤255) X hz=>qP E ov S b a n X (M2.out.kept hz) HAP.out hn);refine(HD.out 1 (by decide) _ (Below.refl _ _)).mono ?_;rintro e w3 ⟨hd,hb3⟩;by_cases q0:ok1 E.I b a 0=false
 ·have he:=DP.n (by decide) (fun j hj=>absurd hj (Nat.not_lt_zero _)) q0 rfl |> fun (hh:DP E.I b a 1 (.panicked (dQ 2 ((a+(0:Nat))%65536))))=>DP.no (qN (by decide) (fun j hj=>absurd hj (Nat.not_lt_zero _)) q0) hd
  subst he;have HX:=Nc (HF.out.trans (if_pos q0));have Z3:=Nc (Z2.out.trans (hb3.mono Z2.out.size));have hm:(a+((0:Nat):Int))%65536=a:=by omega
  clear hb3 hd;rw[hm];go_wp2_with fail
  exact⟨rfl,FP.n HX.out rfl,Z3.out⟩
 simp only[Bool.not_eq_false] at q0;have he:=DP.yes (wF (n:=1) (fun j hj=>by rw[show j=0 by omega];exact q0)) hd;subst he;have Z3:=Nc (Z2.out.trans (hb3.mono Z2.out.size));have Y3:=Nc hb3;have hsz1:=Nc (vW (n:=1) a0 (by decide) (fun j hj=>by rw[show j=0 by omega];exact q0));have hone:=Nc (zg (I:=E.I) (b:=b) (a:=a) (n:=1) (by decide) hsz1.out.1 hsz1.out.2 a0);have hc0:=Nc (show ba (cdV E.I b a 1) 0=cv by have:=hone.out.2 0 (by decide);rw[HCB.out];simpa using this);have hcs:=Nc (show(cdV E.I b a 1).size=1 from hone.out.1);have HF1:=Nc (HF.out.trans (if_neg (by rw[q0];decide)));have HCo:=Nc (fun (n:Int) X (hz:Below W2.heap.size W2 X)=>Ed E.P E.I b a n X HEI.out (M2.out.kept hz).has HAP.out.1 HAP.out.2);unfold imV at HCo;have HSi:=Nc (fun X (hz:Below W2.heap.size W2 X)=>size_any cv X hcb0.1 hcb0.2 (M2.out.kept hz).tab (M2.out.kept hz).pos);obtain⟨z,hz⟩:∃ z,(row cv).z=z:=⟨_,rfl⟩;rw[hz] at HSi HF1 hzz;have HZZ:=Nc hzz;obtain⟨s1,hs1⟩:∃ s1,cdV E.I b a 1=s1:=⟨_,rfl⟩;rw[hs1] at hc0 hcs;have hs0:0 < s1.size:=by rw[hcs.out];decide
 have hba:=Nc (bG s1 0 hs0);have HC1:=Nc (fun X (hz:Below W2.heap.size W2 X)=>HCo.out 1 X hz);rw[hs1] at HC1;clear hb3 hd hz hs1 q0 HF hone hzz;go_wp2_with fail
 have hS3:=Nc (S5c.of M2.out P2.out.1 P2.out.2 (Below.drew Y3.out));refine wp_region_held_drew (S:=fun w'=>w'.cell? ⟨E.b,0,none⟩=some (.slice E.P.p0 E.I.banks.length E.P.c0)∧w'.cell? ⟨E.b,1,none⟩=some (.int .u16 E.I.en)∧w'.cell? ⟨E.b,2,none⟩=some (.int .u16 E.I.ve)∧w'.cell? ⟨E.b,3,none⟩=some (.slice E.P.p1 E.I.data.length E.P.c1)∧w'.cell? ⟨E.b,4,none⟩=some (.slice E.P.p2 E.I.rel.length E.P.c2)∧w'.cell? ⟨pb,0,none⟩=some (.int .i64 b)∧w'.cell? ⟨pb,1,none⟩=some (.int .u16 a)) (by kernel_rfl) (hS3.out) (fun hHeld=>?_);refine tq 0 rfl ?_;refine tq 1 rfl ?_;refine tq 2 rfl ?_;refine tq 3 rfl ?_;refine tq 4 rfl ?_;refine rd1 5 rfl (fun K hK=>?_);go_simp
 ((go_at_call 107;(with_reducible refine(HC1.out _ (Below.drew Y3.out)).mono ?_));rintro e w4 ⟨rfl,hbq⟩;have Y4:=Nc (Below.trans ((Below.drew Y3.out)) (hbq.mono (Below.size ((Below.drew Y3.out)))));have Y4S:=Nc (S5c.of M2.out P2.out.1 P2.out.2 Y4.out);clear hbq)
 go_wp2_with fail
 refine hK.out _ _ (Y4S.out) (fun hHeld=>?_);clear hK K
 try simp only[lay]
 refine tq 6 rfl ?_;refine rd1 7 rfl (fun K hK=>?_);go_simp
 (rw[hba.out,hc0.out]);((go_at_call 106;(with_reducible refine(HSi.out _ Y4.out).mono ?_));rintro e w5 ⟨rfl,hbq⟩;have Y4b:=Nc (Y4.out.trans (hbq.mono Y4.out.size));have Y4bS:=Nc (S5c.of M2.out P2.out.1 P2.out.2 Y4b.out);clear hbq)
 go_wp2_with fail
 refine hK.out _ _ (Y4bS.out) (fun hHeld=>?_);clear hK K
 try simp only[lay]
 refine tq 8 rfl ?_;refine wpAnyH_done (by kernel_rfl) ?_ _;have Y5:=Y4b;obtain⟨z0,z1⟩:=HZZ.out;by_cases qz:z=0
 ·have HX:=Nc (HF1.out.trans (if_pos qz))
  have Z5:=Nc (Z2.out.trans (Y5.out.mono Z2.out.size));subst qz;go_wp2_with fail
  refine(bH _ _ _).mono ?_;rintro e w6 ⟨rfl,rfl⟩;go_wp2_with fail
  exact⟨rfl,FP.n HX.out rfl,Z5.out⟩
 have HF2:=Nc (HF1.out.trans (if_neg qz));have hn0':(0:Int) < z:=by omega
 have hn0h:=Nc hn0';have dz:decide ((0:Int) < z)=true:=decide_eq_true hn0';obtain⟨c0,c1⟩:_∧_:=⟨(Y5.out.cell (p:=⟨pb,0,none⟩) (World.block_lt_of_cell? _ _ P2.out.1)).trans P2.out.1,(Y5.out.cell (p:=⟨pb,1,none⟩) (World.block_lt_of_cell? _ _ P2.out.2)).trans P2.out.2⟩;have HZ2:=Nc (And.intro z0 z1);clear qz z0 z1 hn0';go_wp2_with fail
 refine(dw _ _ _).mono ?_;rintro e w6 ⟨rfl,rfl⟩;go_wp2_with fail
 clear dz;have HN:=Nc (And.intro HZ2.out hn0h);obtain⟨z0,z1⟩:=HZ2.out;obtain⟨n,hn⟩:∃ n:Nat,z=n:=⟨z.toNat,by omega⟩;subst hn;rw[show(((n:Nat):Int)).toNat=n by omega] at HF2;have hn1:1≤n:=by have:=HN.out.2.out;omega
 have hn5:n≤255:=by omega
 clear z0 z1;refine(HD.out n hn5 _ Y5.out).mono ?_;rintro e w6 ⟨hd,hb6⟩;have Y6:=Nc (Y5.out.trans (hb6.mono Y5.out.size));have Z6:=Nc (Z2.out.trans (Y6.out.mono Z2.out.size));clear hb6 c0 c1;cases hfind:(List.range n).find? (fun k=> !ok1 E.I b a k) with
 | some k=>
  have he:=DP.no hfind hd;subst he;rw[hfind] at HF2;have hk:k < n∧ok1 E.I b a k=false∧∀ j,j < k→ok1 E.I b a j=true:=by
   have h1:=List.mem_range.1 (List.mem_of_find?_eq_some hfind);have h2:=List.find?_some hfind;refine⟨h1,by simpa using h2,fun j hj=>?_⟩;obtain⟨_,i,hi,hik,hlt⟩:=List.find?_eq_some_iff_getElem.1 hfind;simp at hik;subst hik;have:=hlt j hj;simpa using this
  have hm:(a+(k:Int))%65536=a+k:=by
   have h1:=hsz1.out.1;obtain⟨l0,l1,l2,l3,l4,l5⟩:=jo b a HAP.out.1 (by have:=h1;unfold gU at this;simp only[Bool.and_eq_true] at this;exact this.1.1);omega
  rw[hm];clear hd hfind hk;go_wp2_with fail
  exact⟨rfl,FP.n HF2.out rfl,Z6.out⟩
 | none=>
  have he:=DP.yes hfind hd;subst he;rw[hfind] at HF2;have hszn:=vW (n:=n) HAP.out.1 hn1 (Ad hfind);have hcn:=(zg (I:=E.I) (b:=b) (a:=a) (n:=n) hn1 hszn.1 hszn.2 HAP.out.1).1;have HCn:=Nc (fun X (hz:Below W2.heap.size W2 X)=>HCo.out n X hz);obtain⟨s,hs⟩:∃ s,cdV E.I b a (n:Int)=s:=⟨_,rfl⟩;rw[hs] at HF2 HCn hcn;have HDe:=Nc (fun X (hz:Below W2.heap.size W2 X)=>decode_any s X (by unfold maxLen;omega) (M2.out.kept hz).tab (M2.out.kept hz).pos);obtain⟨I,hI⟩:∃ I,fD s=I:=⟨_,rfl⟩;obtain⟨er,her⟩:∃ er,fE s=er:=⟨_,rfl⟩;rw[hI,her] at HF2 HDe;have HER:=Nc (her▸Ai s);obtain⟨op,d,s',im,ax,bk',sz⟩:=I;unfold dN at HDe;clear hd hfind hszn hcn hs hI her;go_wp2_with fail
  have hS6:=Nc (S5c.of M2.out P2.out.1 P2.out.2 (Below.drew Y6.out));have Y6d:=Nc (Below.drew Y6.out);refine wp_region_held_drew (S:=fun w'=>w'.cell? ⟨E.b,0,none⟩=some (.slice E.P.p0 E.I.banks.length E.P.c0)∧w'.cell? ⟨E.b,1,none⟩=some (.int .u16 E.I.en)∧w'.cell? ⟨E.b,2,none⟩=some (.int .u16 E.I.ve)∧w'.cell? ⟨E.b,3,none⟩=some (.slice E.P.p1 E.I.data.length E.P.c1)∧w'.cell? ⟨E.b,4,none⟩=some (.slice E.P.p2 E.I.rel.length E.P.c2)∧w'.cell? ⟨pb,0,none⟩=some (.int .i64 b)∧w'.cell? ⟨pb,1,none⟩=some (.int .u16 a)) (by kernel_rfl) (hS6.out) (fun hHeld=>?_);refine tq 0 rfl ?_;refine tq 1 rfl ?_;refine tq 2 rfl ?_;refine tq 3 rfl ?_;refine tq 4 rfl ?_;refine tq 5 rfl ?_;refine wpAnyH_ready (rs:=[6,11]) (by kernel_rfl) (by simp) ?_;refine AllReadyH.cons rfl (fun K hK=>?_) ?_
  ·go_simp
   ((go_at_call 107;(with_reducible refine(HCn.out _ Y6d.out).mono ?_));rintro e w7Y6dc ⟨rfl,hbq⟩;have Y6dc:=Nc (Below.trans (Y6d.out) (hbq.mono (Below.size (Y6d.out))));have Y6dcS:=Nc (S5c.of M2.out P2.out.1 P2.out.2 Y6dc.out);clear hbq)
   go_wp2_with fail
   refine hK.out _ _ (Y6dcS.out) (fun hHeld=>?_);clear hK K
   try simp only[lay]
   refine wpAnyH_ready (rs:=[7,11]) (by kernel_rfl) (by simp) ?_;refine AllReadyH.cons rfl (fun K hK=>?_) ?_
   ·go_simp
    ((go_at_call 108;(with_reducible refine(HDe.out _ Y6dc.out).mono ?_));rintro e w8Y6dcd ⟨rfl,hbq⟩;have Y6dcd:=Nc (Below.trans Y6dc.out (hbq.mono Y6dc.out.size));have Y6dcdS:=Nc (S5c.of M2.out P2.out.1 P2.out.2 Y6dcd.out);clear hbq)
    go_wp2_with fail
    refine hK.out _ _ (Y6dcdS.out) (fun hHeld=>?_);clear hK K
    try simp only[lay]
    refine tq 8 rfl ?_;refine tq 9 rfl ?_;refine tq 10 rfl ?_;refine rd1 11 rfl (fun K hK=>?_)
    ·go_simp
     have Y6dcda:=Nc (Below.alloc Y6dcd.out Y6dcd.out.size (.cells #[.int .i64 0,.int .i64 0,.int .i64 0,.int .u16 0,.int .u16 0,.int .i64 0,.int .i64 0] 58));have Y6dcdaS:=Nc (S5c.of M2.out P2.out.1 P2.out.2 Y6dcda.out);refine hK.out _ _ (Y6dcdaS.out) (fun hHeld=>?_);have NB:=Nc (heap_alloc_new w8Y6dcd (.cells #[.int .i64 0,.int .i64 0,.int .i64 0,.int .u16 0,.int .u16 0,.int .i64 0,.int .i64 0] 58));have NL:=Nc Y6dcd.out.size;clear hK K
     try simp only[lay]
     obtain⟨V,hV⟩:∃ V,(w8Y6dcd.alloc (.cells #[.int .i64 0,.int .i64 0,.int .i64 0,.int .u16 0,.int .u16 0,.int .i64 0,.int .i64 0] 58))=V:=⟨_,rfl⟩;rw[hV] at NB Y6dcda;rw[hV];obtain⟨nb,hnb⟩:∃ nb,w8Y6dcd.heap.size=nb:=⟨_,rfl⟩;rw[hnb] at NB NL;rw[hnb];have zb0:=ae NB.out 0 _ rfl;have zb1:=ae NB.out 1 _ rfl;have zb2:=ae NB.out 2 _ rfl;have zb3:=ae NB.out 3 _ rfl;have zb4:=ae NB.out 4 _ rfl;have zb5:=ae NB.out 5 _ rfl;have zb6:=ae NB.out 6 _ rfl;have fz:=fun j=>frozen_of_row V nb j _ _ NB.out
     have N7:=Nc (zA NB.out (.int .i64 op) (.int .i64 d) (.int .i64 s') (.int .u16 im) (.int .u16 ax) (.int .i64 bk') (.int .i64 sz));have Y9:=Nc (kT Y6dcda.out NL.out (.int .i64 op) (.int .i64 d) (.int .i64 s') (.int .u16 im) (.int .u16 ax) (.int .i64 bk') (.int .i64 sz));have Y9S:=Nc (S5c.of M2.out P2.out.1 P2.out.2 Y9.out);refine rd1 12 rfl (fun K hK=>?_);go_simp;refine hK.out _ _ (Y9S.out) (fun hHeld=>?_);clear hK K
     try simp only[lay]
     refine rd1 13 rfl (fun K hK=>?_);go_simp;refine hK.out _ _ (Y9S.out) (fun hHeld=>?_);clear hK K
     try simp only[lay]
     refine wpAnyH_done (by kernel_rfl) ?_ _;clear zb0 zb1 zb2 zb3 zb4 zb5 zb6 fz;generalize (((((((V.setCell ⟨nb,0,none⟩ (.int .i64 op)).setCell ⟨nb,1,none⟩ (.int .i64 d)).setCell ⟨nb,2,none⟩ (.int .i64 s')).setCell ⟨nb,3,none⟩ (.int .u16 im)).setCell ⟨nb,4,none⟩ (.int .u16 ax)).setCell ⟨nb,5,none⟩ (.int .i64 bk')).setCell ⟨nb,6,none⟩ (.int .i64 sz))=V7 at N7 Y9⊢;have NL2:=Nc (Nat.le_trans Z2.out.size NL.out);have I7:=Nc ((Y9.out.block _ (lt_of_block I2.out)).trans I2.out);have Z9:=Nc (Z2.out.trans (Y9.out.mono Z2.out.size));obtain⟨rb,hrb⟩:∃ rb,w.heap.size=rb:=⟨_,rfl⟩;rw[hrb] at I7 NL2 Z9 Z2⊢;by_cases qe:er=0
     ·have HX:=Nc (HF2.out.trans (if_pos qe))
      have Z10:=Nc (kT Z9.out (Nat.le_refl _) (.int .i64 op) (.int .i64 d) (.int .i64 s') (.int .u16 im) (.int .u16 ax) (.int .i64 bk') (.int .i64 sz));have S7:=Nc (zA I7.out (.int .i64 op) (.int .i64 d) (.int .i64 s') (.int .u16 im) (.int .u16 ax) (.int .i64 bk') (.int .i64 sz));have n0:=ae N7.out 0 _ rfl;have n1:=ae N7.out 1 _ rfl;have n2:=ae N7.out 2 _ rfl;have n3:=ae N7.out 3 _ rfl;have n4:=ae N7.out 4 _ rfl;have n5:=ae N7.out 5 _ rfl;have n6:=ae N7.out 6 _ rfl;have r0:=ae I7.out 0 _ rfl;have r1:=ae I7.out 1 _ rfl;have r2:=ae I7.out 2 _ rfl;have r3:=ae I7.out 3 _ rfl;have r4:=ae I7.out 4 _ rfl;have r5:=ae I7.out 5 _ rfl;have r6:=ae I7.out 6 _ rfl;have t0:=Nc (ae S7.out 0 _ rfl);have t1:=Nc (ae S7.out 1 _ rfl);have t2:=Nc (ae S7.out 2 _ rfl);have t3:=Nc (ae S7.out 3 _ rfl);have t4:=Nc (ae S7.out 4 _ rfl);have t5:=Nc (ae S7.out 5 _ rfl);have t6:=Nc (ae S7.out 6 _ rfl);have fr:=fun j=>frozen_of_row V7 rb j _ _ I7.out
      subst qe;clear HER;go_wp2_with fail
      refine(dw _ _ _).mono ?_;rintro e w9 ⟨rfl,rfl⟩;go_wp2_with fail
      exact bodyPost_ret (v:= .agg #[.int .i64 op,.int .i64 d,.int .i64 s',.int .u16 im,.int .u16 ax,.int .i64 bk',.int .i64 sz]) (by simp[results,Tryz.results62,go_sem,t0.out,t1.out,t2.out,t3.out,t4.out,t5.out,t6.out]) rfl ⟨FP.y HX.out rfl,by rw[hrb];exact Z10.out⟩
     ·have HX:=Nc (HF2.out.trans (if_neg qe))
      have her2:er=10∨er=11:=by rcases HER.out with h | h | h;exact absurd h qe;exact .inl h.1;exact .inr h.1
      rcases her2 with hq|hq;all_goals
       subst hq;clear HER qe HF2;go_wp2_with fail
       refine(bH _ _ _).mono ?_;rintro e w9 ⟨rfl,rfl⟩;go_wp2_with fail
       exact⟨rfl,FP.n HX.out rfl,by rw[hrb];exact Z9.out⟩
   refine AllReadyH.cons rfl (fun K hK=>?_) AllReadyH.nil
   ·go_simp
    have Y6dca:=Nc (Below.alloc Y6dc.out Y6dc.out.size (.cells #[.int .i64 0,.int .i64 0,.int .i64 0,.int .u16 0,.int .u16 0,.int .i64 0,.int .i64 0] 58));have Y6dcaS:=Nc (S5c.of M2.out P2.out.1 P2.out.2 Y6dca.out);refine hK.out _ _ (Y6dcaS.out) (fun hHeld=>?_);have NB:=Nc (heap_alloc_new w7Y6dc (.cells #[.int .i64 0,.int .i64 0,.int .i64 0,.int .u16 0,.int .u16 0,.int .i64 0,.int .i64 0] 58));have NL:=Nc Y6dc.out.size;clear hK K
    try simp only[lay]
    refine rd1 7 rfl (fun K hK=>?_)
    ·go_simp
     ((go_at_call 108;(with_reducible refine(HDe.out _ Y6dca.out).mono ?_));rintro e w8Y6dcad ⟨rfl,hbq⟩;have Y6dcad:=Nc (Below.trans Y6dca.out (hbq.mono Y6dca.out.size));have Y6dcadS:=Nc (S5c.of M2.out P2.out.1 P2.out.2 Y6dcad.out);have NB:=Nc ((hbq.block _ (lt_of_block NB.out)).trans NB.out);clear hbq)
     go_wp2_with fail
     refine hK.out _ _ (Y6dcadS.out) (fun hHeld=>?_);clear hK K
     try simp only[lay]
     refine tq 8 rfl ?_;refine tq 9 rfl ?_;refine tq 10 rfl ?_;obtain⟨nb,hnb⟩:∃ nb,w7Y6dc.heap.size=nb:=⟨_,rfl⟩;rw[hnb] at NB NL;rw[hnb];have zb0:=ae NB.out 0 _ rfl;have zb1:=ae NB.out 1 _ rfl;have zb2:=ae NB.out 2 _ rfl;have zb3:=ae NB.out 3 _ rfl;have zb4:=ae NB.out 4 _ rfl;have zb5:=ae NB.out 5 _ rfl;have zb6:=ae NB.out 6 _ rfl;have fz:=fun j=>frozen_of_row w8Y6dcad nb j _ _ NB.out
     have N7:=Nc (zA NB.out (.int .i64 op) (.int .i64 d) (.int .i64 s') (.int .u16 im) (.int .u16 ax) (.int .i64 bk') (.int .i64 sz));have Y9:=Nc (kT Y6dcad.out NL.out (.int .i64 op) (.int .i64 d) (.int .i64 s') (.int .u16 im) (.int .u16 ax) (.int .i64 bk') (.int .i64 sz));have Y9S:=Nc (S5c.of M2.out P2.out.1 P2.out.2 Y9.out);refine rd1 12 rfl (fun K hK=>?_);go_simp;refine hK.out _ _ (Y9S.out) (fun hHeld=>?_);clear hK K
     try simp only[lay]
     refine rd1 13 rfl (fun K hK=>?_);go_simp;refine hK.out _ _ (Y9S.out) (fun hHeld=>?_);clear hK K
     try simp only[lay]
     refine wpAnyH_done (by kernel_rfl) ?_ _;clear zb0 zb1 zb2 zb3 zb4 zb5 zb6 fz;generalize (((((((w8Y6dcad.setCell ⟨nb,0,none⟩ (.int .i64 op)).setCell ⟨nb,1,none⟩ (.int .i64 d)).setCell ⟨nb,2,none⟩ (.int .i64 s')).setCell ⟨nb,3,none⟩ (.int .u16 im)).setCell ⟨nb,4,none⟩ (.int .u16 ax)).setCell ⟨nb,5,none⟩ (.int .i64 bk')).setCell ⟨nb,6,none⟩ (.int .i64 sz))=V7 at N7 Y9⊢;have NL2:=Nc (Nat.le_trans Z2.out.size NL.out);have I7:=Nc ((Y9.out.block _ (lt_of_block I2.out)).trans I2.out);have Z9:=Nc (Z2.out.trans (Y9.out.mono Z2.out.size));obtain⟨rb,hrb⟩:∃ rb,w.heap.size=rb:=⟨_,rfl⟩;rw[hrb] at I7 NL2 Z9 Z2⊢;by_cases qe:er=0
     ·have HX:=Nc (HF2.out.trans (if_pos qe))
      have Z10:=Nc (kT Z9.out (Nat.le_refl _) (.int .i64 op) (.int .i64 d) (.int .i64 s') (.int .u16 im) (.int .u16 ax) (.int .i64 bk') (.int .i64 sz));have S7:=Nc (zA I7.out (.int .i64 op) (.int .i64 d) (.int .i64 s') (.int .u16 im) (.int .u16 ax) (.int .i64 bk') (.int .i64 sz));have n0:=ae N7.out 0 _ rfl;have n1:=ae N7.out 1 _ rfl;have n2:=ae N7.out 2 _ rfl;have n3:=ae N7.out 3 _ rfl;have n4:=ae N7.out 4 _ rfl;have n5:=ae N7.out 5 _ rfl;have n6:=ae N7.out 6 _ rfl;have r0:=ae I7.out 0 _ rfl;have r1:=ae I7.out 1 _ rfl;have r2:=ae I7.out 2 _ rfl;have r3:=ae I7.out 3 _ rfl;have r4:=ae I7.out 4 _ rfl;have r5:=ae I7.out 5 _ rfl;have r6:=ae I7.out 6 _ rfl;have t0:=Nc (ae S7.out 0 _ rfl);have t1:=Nc (ae S7.out 1 _ rfl);have t2:=Nc (ae S7.out 2 _ rfl);have t3:=Nc (ae S7.out 3 _ rfl);have t4:=Nc (ae S7.out 4 _ rfl);have t5:=Nc (ae S7.out 5 _ rfl);have t6:=Nc (ae S7.out 6 _ rfl);have fr:=fun j=>frozen_of_row V7 rb j _ _ I7.out
      subst qe;clear HER;go_wp2_with fail
      refine(dw _ _ _).mono ?_;rintro e w9 ⟨rfl,rfl⟩;go_wp2_with fail
      exact bodyPost_ret (v:= .agg #[.int .i64 op,.int .i64 d,.int .i64 s',.int .u16 im,.int .u16 ax,.int .i64 bk',.int .i64 sz]) (by simp[results,Tryz.results62,go_sem,t0.out,t1.out,t2.out,t3.out,t4.out,t5.out,t6.out]) rfl ⟨FP.y HX.out rfl,by rw[hrb];exact Z10.out⟩
     ·have HX:=Nc (HF2.out.trans (if_neg qe))
      have her2:er=10∨er=11:=by rcases HER.out with h | h | h;exact absurd h qe;exact .inl h.1;exact .inr h.1
      rcases her2 with hq|hq;all_goals
       subst hq;clear HER qe HF2;go_wp2_with fail
       refine(bH _ _ _).mono ?_;rintro e w9 ⟨rfl,rfl⟩;go_wp2_with fail
       exact⟨rfl,FP.n HX.out rfl,by rw[hrb];exact Z9.out⟩
  refine AllReadyH.cons rfl (fun K hK=>?_) AllReadyH.nil
  ·go_simp
   have Y6daD:=Nc (Below.alloc Y6d.out Y6d.out.size (.cells #[.int .i64 0,.int .i64 0,.int .i64 0,.int .u16 0,.int .u16 0,.int .i64 0,.int .i64 0] 58));have Y6daDS:=Nc (S5c.of M2.out P2.out.1 P2.out.2 Y6daD.out);refine hK.out _ _ (Y6daDS.out) (fun hHeld=>?_);have Y6da:=Nc (Below.drew (Below.alloc Y6.out Y6.out.size (.cells #[.int .i64 0,.int .i64 0,.int .i64 0,.int .u16 0,.int .u16 0,.int .i64 0,.int .i64 0] 58)));have NB:Hid ((w6.alloc (.cells #[.int .i64 0,.int .i64 0,.int .i64 0,.int .u16 0,.int .u16 0,.int .i64 0,.int .i64 0] 58)).drew.heap[w6.heap.size]? =_):=Nc (heap_alloc_new w6 (.cells #[.int .i64 0,.int .i64 0,.int .i64 0,.int .u16 0,.int .u16 0,.int .i64 0,.int .i64 0] 58));have NL:=Nc Y6.out.size;clear hK K
   try simp only[lay]
   refine rd1 6 rfl (fun K hK=>?_)
   ·go_simp
    ((go_at_call 107;(with_reducible refine(HCn.out _ Y6da.out).mono ?_));rintro e w7Y6dac ⟨rfl,hbq⟩;have Y6dac:=Nc (Below.trans (Y6da.out) (hbq.mono (Below.size (Y6da.out))));have Y6dacS:=Nc (S5c.of M2.out P2.out.1 P2.out.2 Y6dac.out);have NB:=Nc ((hbq.block _ (lt_of_block NB.out)).trans NB.out);clear hbq)
    go_wp2_with fail
    refine hK.out _ _ (Y6dacS.out) (fun hHeld=>?_);clear hK K
    try simp only[lay]
    refine rd1 7 rfl (fun K hK=>?_)
    ·go_simp
     ((go_at_call 108;(with_reducible refine(HDe.out _ Y6dac.out).mono ?_));rintro e w8Y6dacd ⟨rfl,hbq⟩;have Y6dacd:=Nc (Below.trans Y6dac.out (hbq.mono Y6dac.out.size));have Y6dacdS:=Nc (S5c.of M2.out P2.out.1 P2.out.2 Y6dacd.out);have NB:=Nc ((hbq.block _ (lt_of_block NB.out)).trans NB.out);clear hbq)
     go_wp2_with fail
     refine hK.out _ _ (Y6dacdS.out) (fun hHeld=>?_);clear hK K
     try simp only[lay]
     refine tq 8 rfl ?_;refine tq 9 rfl ?_;refine tq 10 rfl ?_;obtain⟨nb,hnb⟩:∃ nb,w6.heap.size=nb:=⟨_,rfl⟩;rw[hnb] at NB NL;rw[hnb];have zb0:=ae NB.out 0 _ rfl;have zb1:=ae NB.out 1 _ rfl;have zb2:=ae NB.out 2 _ rfl;have zb3:=ae NB.out 3 _ rfl;have zb4:=ae NB.out 4 _ rfl;have zb5:=ae NB.out 5 _ rfl;have zb6:=ae NB.out 6 _ rfl;have fz:=fun j=>frozen_of_row w8Y6dacd nb j _ _ NB.out
     have N7:=Nc (zA NB.out (.int .i64 op) (.int .i64 d) (.int .i64 s') (.int .u16 im) (.int .u16 ax) (.int .i64 bk') (.int .i64 sz));have Y9:=Nc (kT Y6dacd.out NL.out (.int .i64 op) (.int .i64 d) (.int .i64 s') (.int .u16 im) (.int .u16 ax) (.int .i64 bk') (.int .i64 sz));have Y9S:=Nc (S5c.of M2.out P2.out.1 P2.out.2 Y9.out);refine rd1 12 rfl (fun K hK=>?_);go_simp;refine hK.out _ _ (Y9S.out) (fun hHeld=>?_);clear hK K
     try simp only[lay]
     refine rd1 13 rfl (fun K hK=>?_);go_simp;refine hK.out _ _ (Y9S.out) (fun hHeld=>?_);clear hK K
     try simp only[lay]
     refine wpAnyH_done (by kernel_rfl) ?_ _;clear zb0 zb1 zb2 zb3 zb4 zb5 zb6 fz;generalize (((((((w8Y6dacd.setCell ⟨nb,0,none⟩ (.int .i64 op)).setCell ⟨nb,1,none⟩ (.int .i64 d)).setCell ⟨nb,2,none⟩ (.int .i64 s')).setCell ⟨nb,3,none⟩ (.int .u16 im)).setCell ⟨nb,4,none⟩ (.int .u16 ax)).setCell ⟨nb,5,none⟩ (.int .i64 bk')).setCell ⟨nb,6,none⟩ (.int .i64 sz))=V7 at N7 Y9⊢;have NL2:=Nc (Nat.le_trans Z2.out.size NL.out);have I7:=Nc ((Y9.out.block _ (lt_of_block I2.out)).trans I2.out);have Z9:=Nc (Z2.out.trans (Y9.out.mono Z2.out.size));obtain⟨rb,hrb⟩:∃ rb,w.heap.size=rb:=⟨_,rfl⟩;rw[hrb] at I7 NL2 Z9 Z2⊢;by_cases qe:er=0
     ·have HX:=Nc (HF2.out.trans (if_pos qe))
      have Z10:=Nc (kT Z9.out (Nat.le_refl _) (.int .i64 op) (.int .i64 d) (.int .i64 s') (.int .u16 im) (.int .u16 ax) (.int .i64 bk') (.int .i64 sz));have S7:=Nc (zA I7.out (.int .i64 op) (.int .i64 d) (.int .i64 s') (.int .u16 im) (.int .u16 ax) (.int .i64 bk') (.int .i64 sz));have n0:=ae N7.out 0 _ rfl;have n1:=ae N7.out 1 _ rfl;have n2:=ae N7.out 2 _ rfl;have n3:=ae N7.out 3 _ rfl;have n4:=ae N7.out 4 _ rfl;have n5:=ae N7.out 5 _ rfl;have n6:=ae N7.out 6 _ rfl;have r0:=ae I7.out 0 _ rfl;have r1:=ae I7.out 1 _ rfl;have r2:=ae I7.out 2 _ rfl;have r3:=ae I7.out 3 _ rfl;have r4:=ae I7.out 4 _ rfl;have r5:=ae I7.out 5 _ rfl;have r6:=ae I7.out 6 _ rfl;have t0:=Nc (ae S7.out 0 _ rfl);have t1:=Nc (ae S7.out 1 _ rfl);have t2:=Nc (ae S7.out 2 _ rfl);have t3:=Nc (ae S7.out 3 _ rfl);have t4:=Nc (ae S7.out 4 _ rfl);have t5:=Nc (ae S7.out 5 _ rfl);have t6:=Nc (ae S7.out 6 _ rfl);have fr:=fun j=>frozen_of_row V7 rb j _ _ I7.out
      subst qe;clear HER;go_wp2_with fail
      refine(dw _ _ _).mono ?_;rintro e w9 ⟨rfl,rfl⟩;go_wp2_with fail
      exact bodyPost_ret (v:= .agg #[.int .i64 op,.int .i64 d,.int .i64 s',.int .u16 im,.int .u16 ax,.int .i64 bk',.int .i64 sz]) (by simp[results,Tryz.results62,go_sem,t0.out,t1.out,t2.out,t3.out,t4.out,t5.out,t6.out]) rfl ⟨FP.y HX.out rfl,by rw[hrb];exact Z10.out⟩
     ·have HX:=Nc (HF2.out.trans (if_neg qe))
      have her2:er=10∨er=11:=by rcases HER.out with h | h | h;exact absurd h qe;exact .inl h.1;exact .inr h.1
      rcases her2 with hq|hq;all_goals
       subst hq;clear HER qe HF2;go_wp2_with fail
       refine(bH _ _ _).mono ?_;rintro e w9 ⟨rfl,rfl⟩;go_wp2_with fail
       exact⟨rfl,FP.n HX.out rfl,by rw[hrb];exact Z9.out⟩
end Go.Proofs.YthkcloapiefggaaGreatDoor
