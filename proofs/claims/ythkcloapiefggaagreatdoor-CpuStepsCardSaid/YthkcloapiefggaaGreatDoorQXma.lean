import Derived.Test.YthkcloapiefggaaGreatDoorQAgr
import Derived.Test.YthkcloapiefggaaGreatDoorQIsa
namespace Go.Proofs.YthkcloapiefggaaGreatDoor
set_option linter.unusedVariables false
set_option linter.unusedSimpArgs false
set_option maxRecDepth 100000
open Go.ChangeShapes Go.WideShapes Go.RowKit
theorem Jj{t:ByteArray}(h0:0 < t.size)(h1:known (ba t 0)=true)(h2:(row (ba t 0)).z.toNat≤t.size)(h3:readB (row (ba t 0)) t=true):fE t=0∧fD t=aI (row (ba t 0)) t:=by
 have hz:=oD (ba t 0);have hE:fE t=0:=by
  unfold fE;rw[if_neg (by omega),if_neg (by rw[h1];decide),if_neg (by omega),if_pos h3]
 exact⟨hE,by unfold fD;rw[if_pos hE]⟩

theorem iU(c:Int)(w:World)(c0:0≤c)(c1:c < 256):Calls Tryz.prog 46 #[.int .u8 c] w fun e w'=>e= .returned (.int .u16 (dW c))∧w=w':=by
 by_cases h:c < 128
 ·have HF:=Nc (show dW c=c by unfold dW;rw[if_pos h])
  have hw:IntKind.u16.wrap c=c:=by rw[IntKind.wrap_u16];omega
  go_enter Tryz.func46,Tryz.ntmps46
  go_wp2_with fail
  go_ret
  exact⟨eX HF.out.symm,rfl⟩
 ·have HF:=Nc (show dW c=65280+c by unfold dW;rw[if_neg h];try omega)
  have hw:IntKind.u16.wrap c=c:=by rw[IntKind.wrap_u16];omega
  have hw2:IntKind.u16.wrap (65280+c)=65280+c:=by rw[IntKind.wrap_u16];omega
  go_enter Tryz.func46,Tryz.ntmps46
  go_wp2_with fail
  go_ret
  exact⟨eX HF.out.symm,rfl⟩
def nT(l:List Int):List Value:=l.map (Value.int .i64)
theorem info3:(Tryz.prog.info? 3).map (fun i=>(i.zero,i.size,i.bytes))=some (some (.int .i64 0),1,8):=by kernel_rfl
theorem CV(w:World)(n:Int):∀ (j:Nat) (u:Value),[Value.int .i64 n][j]? =some u→(w.alloc (.cells #[.int .i64 n] 3)).cell? ((⟨w.heap.size,0,none⟩:Addr).add j)=some u:=by
 intro j u h
 match j,h with
 | 0,h=>simpa [Addr.add] using h
structure Mqd(B:Nat)(q0 q1 q2 q3 q4:Int)(w wr:World):Prop where
 hq:wr.heap[B]? =some (.cells #[.int .i64 q0,.int .i64 q1,.int .i64 q2,.int .i64 q3,.int .i64 q4] 53 (0,0))
 hr:wr.heap[B+1]? =some (.cells #[.int .i64 0,.int .i64 0,.int .i64 0,.int .u16 0,.int .u16 0,.int .i64 0,.int .i64 0] 58 (0,0))
 hb:Below B w wr
 hs:B+1 < wr.heap.size
theorem IX(w:World)(q0 q1 q2 q3 q4:Int):Mqd w.heap.size q0 q1 q2 q3 q4 w ((w.alloc (.cells #[.int .i64 q0,.int .i64 q1,.int .i64 q2,.int .i64 q3,.int .i64 q4] 53)).alloc (.cells #[.int .i64 0,.int .i64 0,.int .i64 0,.int .u16 0,.int .u16 0,.int .i64 0,.int .i64 0] 58)):=by
 have h0:=aj _ (.cells #[.int .i64 0,.int .i64 0,.int .i64 0,.int .u16 0,.int .u16 0,.int .i64 0,.int .i64 0] 58) _ (heap_alloc_new w (.cells #[.int .i64 q0,.int .i64 q1,.int .i64 q2,.int .i64 q3,.int .i64 q4] 53));have h1:=heap_alloc_new (w.alloc (.cells #[.int .i64 q0,.int .i64 q1,.int .i64 q2,.int .i64 q3,.int .i64 q4] 53)) (.cells #[.int .i64 0,.int .i64 0,.int .i64 0,.int .u16 0,.int .u16 0,.int .i64 0,.int .i64 0] 58);simp only[World.size_alloc] at h1;exact⟨h0,h1,((Below.refl _ _).alloc (Nat.le_refl _) _).alloc (by simp) _,by simp⟩
theorem Mqd.next{B:Nat}{q0 q1 q2 q3 q4:Int}{w wr w':World}(h:Mqd B q0 q1 q2 q3 q4 w wr)(hb:Below (B+2) wr w'):Mqd B q0 q1 q2 q3 q4 w w':=
 ⟨(hb.block _ (by omega)).trans h.hq,(hb.block _ (by omega)).trans h.hr,h.hb.trans (hb.mono (by omega)),Nat.lt_of_lt_of_le h.hs hb.size⟩
structure Mk(B:Nat)(q0 q1 q2 q3 q4:Int)(w:World)(k:Nat)(v:Value)(wr:World):Prop where
 m:Mqd B q0 q1 q2 q3 q4 w wr
 own:wr.ownsRow (B+2) 3 1 v (iY k).length (nT (iY k))
theorem Mk.call{B:Nat}{q0 q1 q2 q3 q4:Int}{w wr w':World}{k:Nat}{v:Value}(h:Mk B q0 q1 q2 q3 q4 w k v wr)(hb:Below wr.heap.size wr w'):Mk B q0 q1 q2 q3 q4 w k v w':=
 ⟨h.m.next (hb.mono (by have:=h.m.hs;omega)),h.own.kept (below_grown hb) (by cases v.ownBlock<;>simp)⟩
theorem Mk.skip{B:Nat}{q0 q1 q2 q3 q4:Int}{w wr:World}{k:Nat}{v:Value}(h:Mk B q0 q1 q2 q3 q4 w k v wr)(hf:rF (k:Nat)=0):Mk B q0 q1 q2 q3 q4 w (k+1) v wr:=
 ⟨h.m,by have:=h.own;rw[sH,if_pos hf];exact this⟩
theorem Mk.put{B:Nat}{q0 q1 q2 q3 q4:Int}{w wr w1:World}{k:Nat}{v v1:Value}{o:Obj}(h:Mk B q0 q1 q2 q3 q4 w k v wr)(hf:¬ rF (k:Nat)=0)
  (hown:w1.ownsRow (B+2) 3 1 v1 ((iY k).length+1) (nT (iY k)++[.int .i64 (k:Nat)])) (hg:(wr.alloc o).grownBy w1 v.ownBlock):Mk B q0 q1 q2 q3 q4 w (k+1) v1 w1:=by
 refine⟨h.m.next (((Below.refl _ _).alloc (by have:=h.m.hs;omega) o).grown hg (by have:=h.m.hs;simp;omega) fun j hj=>(h.own.lt j hj).1),?_⟩;rw[sH,if_neg hf];have e:(iY k++[(k:Int)]).length=(iY k).length+1:=by simp
 rw[e,show nT (iY k++[(k:Int)])=nT (iY k)++[.int .i64 (k:Nat)] by simp[nT]];exact hown
set_option maxHeartbeats 8000000 in
theorem Di(q0 q1 q2 q3 q4:Int)(w:World):
  Calls Tryz.prog 20 #[.agg #[.int .i64 q0,.int .i64 q1,.int .i64 q2,.int .i64 q3,.int .i64 q4]] w fun e w'=>e= .returned (dN (fG q0 q1 q2 q3 q4))∧Below w.heap.size w w':=by
 have HM0:=Nc (IX w q0 q1 q2 q3 q4);obtain⟨i0,hi,hz0,hz1,hz2⟩:=info_parts info3;go_enter Tryz.func20,Tryz.ntmps20
 go_wp2_with fail
 go_loopw [3,4] (fun v i wr=>∃ k:Nat,k≤164∧i= .int .i64 k∧Hid (Mk w.heap.size q0 q1 q2 q3 q4 w k v wr)) (fun _ i _=>(164-intOf i).toNat)
 case atStart=>exact⟨0,by omega,rfl,Nc ⟨HM0.out,World.ownsRow_nil _ _ _ _⟩⟩
 case round=>
  obtain⟨k,hk,rfl,HK⟩:=hrel;by_cases hlt:k < 164
  ·go_wp2_with fail
   refine(gK k _ (by omega) (by omega)).mono ?_;rintro e w2 ⟨rfl,hb⟩;have HK2:=Nc (HK.out.call hb);clear hb;by_cases hf:rF (k:Nat)=0
   ·rw[hf]
    have HK3:=Nc (HK2.out.skip hf);clear hf;go_wp2_with fail
    go_roundw
    case rel=>exact⟨k+1,by omega,by go_num,HK3⟩
    case measure=>simp[intOf];omega
   ·have HF:=Nc hf
    have hlen:=Df k;go_wp2_with (at_builtin;refine wpList_append_own _ rfl _ _ 24 rfl (w.heap.size+2) 3 i0 (.int .i64 0) 1 8 Tryz.underlying24 hi hz0 hz1 hz2 rfl (by decide) _ _ _ rfl (HK2.out.own.alloc _) ⟨w2.heap.size,0,none⟩ 1 1 [.int .i64 (k:Nat)] rfl rfl ?c1 ?c2 ?c3 ?c4 ?c5 ?_)
    case c1=>exact CV w2 _
    case c2=>intro u hu;simp at hu;subst hu;rfl
    case c3=>unfold maxLen;omega
    case c4=>omega
    case c5=>have:=HK2.out.m.hs;simp;omega
    intro v1 w1 hown1 hg hn;have HK3:=Nc (HK2.out.put HF.out hown1 hg);clear hown1 hg hn hf hlen;go_wp2_with fail
    go_roundw
    case rel=>exact⟨k+1,by omega,by go_num,HK3⟩
    case measure=>simp[intOf];omega
  ·obtain rfl:k=164:=by omega
   have hmq:=HK.out.m;have hown:=HK.out.own;rw[yR] at hown;obtain⟨g,cap,rfl⟩:∃ g cap,u3= .slice (some ⟨g,0,none⟩) 113 cap:=by
    rcases hown.2 with⟨_,h⟩|⟨g,cap,cur,h,_⟩
    ·cases h
    ·exact⟨g,cap,h⟩
   obtain⟨j,hj⟩:=Int.eq_ofNat_of_zero_le (show 0≤q0%65536%113 by omega);have hj1:j < 113:=by omega
   have hcell:wr.cell? ⟨g,j,none⟩=some (.int .i64 (nO q0)):=by
    rw[hown.cellAt _ (by omega)];have:=yS q0;rw[hj] at this;unfold nT;rw[List.getElem?_map,show iY 164=iY 164 from rfl];simp only[Int.toNat_natCast] at this;rw[this];rfl
   have hand:=oh q0;have hrem:(q0%65536).tmod 113=j:=by rw[Int.tmod_eq_emod_of_nonneg (by omega),hj]
   have hrem2:IntKind.i64.wrap (j:Int)=j:=IntWalk.i64_in _ (by omega);have hf0:=Dh q0;obtain⟨p0,p1⟩:=yE _ hf0;obtain⟨f0,f1⟩:=ku (nO q0);obtain⟨op,hop⟩:∃ op,nO q0=op:=⟨_,rfl⟩;have HI:=Nc (show fG q0 q1 q2 q3 q4=fK (rF op) op (rZ op) q1 q2 q3 q4 by unfold fG;rw[hop]);rw[hop] at hcell hf0 p0 p1 f0 f1;have HS:=Nc (fun w=>jk op w (by omega) (by omega));have HFm:=Nc (fun w=>gK op w (by omega) (by omega));obtain⟨z,hz⟩:∃ z,rZ op=z:=⟨_,rfl⟩;obtain⟨F,hF⟩:∃ F,rF op=F:=⟨_,rfl⟩;rw[hz] at HI HS;rw[hF] at HI HFm hf0 f0 f1;have hby:op%256=op:=by omega
   have hcases:=Nc (f18 F f0 f1 hf0);have HQ:=Nc hmq;have hq0:wr.cell? ⟨w.heap.size,0,none⟩=some (.int .i64 q0):=by unfold World.cell?;rw[hmq.hq];rfl
   clear hop hz hF hown HK hmq hf0 f0 f1;go_wp2_with fail
   refine(HS.out _).mono ?_;rintro e w3 ⟨rfl,hb⟩;have HQ3:=Nc (HQ.out.next (hb.mono (by have:=HQ.out.hs;omega)));clear hb hcell hand hrem hrem2 hq0 HQ;have HQ4:=Nc (HQ3.out.next ((Below.refl _ _).alloc (by have:=HQ3.out.hs;omega) (.cells (gJ ⟨op,0,0,0,0,0,z⟩) 58)));have HA4:=Nc (heap_alloc_new w3 (.cells (gJ ⟨op,0,0,0,0,0,z⟩) 58));have hs3:=HQ3.out.hs;have hN3:w.heap.size < w3.heap.size:=by omega
   have hc0:∀ k v,(#[.int .i64 q0,.int .i64 q1,.int .i64 q2,.int .i64 q3,.int .i64 q4]:Array Value)[k]? =some v→w3.cell? ⟨w.heap.size,k,none⟩=some v:=by
    intro k v h;unfold World.cell?;rw[HQ3.out.hq];exact h
   have c1:=hc0 1 _ rfl;have c2:=hc0 2 _ rfl;have c3:=hc0 3 _ rfl;have a1:=Hy q1;have a2:=Hy q2;have a3:=Jv q4;have a4:=oh q4;clear hc0;obtain⟨v,hv⟩:∃ v,q3%65536=v:=⟨_,rfl⟩;have hw3:IntKind.u16.wrap q3=v:=by rw[IntKind.wrap_u16];exact hv
   have v0:0≤v:=by omega
   have v1:v < 65536:=by omega
   have HV:=Nc hv;clear hv hj hj1;go_wp2_with fail
   refine(HFm.out _).mono ?_;rintro e w4 ⟨rfl,hb⟩;have HQ5:=Nc (HQ4.out.next (hb.mono (by have:=HQ4.out.hs;simp at this⊢;omega)));have HA5:=Nc ((hb.block w3.heap.size (by simp)).trans HA4.out);have hs4:w3.heap.size < w4.heap.size:=by have:=hb.size;simp at this;omega
   clear hb c1 c2 c3 hw3;have hc0:∀ k v,(#[.int .i64 q0,.int .i64 q1,.int .i64 q2,.int .i64 q3,.int .i64 q4]:Array Value)[k]? =some v→w4.cell? ⟨w.heap.size,k,none⟩=some v:=by
    intro k v h;unfold World.cell?;rw[HQ5.out.hq];exact h
   have c2:=hc0 2 _ rfl;have c4:=hc0 4 _ rfl;clear hc0;obtain⟨e0,e1,e2,e3,e4,e5,e6⟩:=dH HA5.out;have fz3:=fun j=>dm (j:=j) HA5.out
   have fzr:=fun j=>dm (j:=j) HQ5.out.hr
   obtain⟨r0,r1,r2,r3,r4,r5,r6⟩:=dH (i:=eH) HQ5.out.hr;simp only[eH] at e0 e1 e2 e3 e4 e5 e6 r0 r1 r2 r3 r4 r5 r6;have hne1:w3.heap.size≠w.heap.size:=by omega
   have hne2:w3.heap.size≠w.heap.size+1:=by omega
   have hne3:w.heap.size+1≠w3.heap.size:=by omega
   have hne4:w.heap.size≠w3.heap.size:=by omega
   have HX:=Nc (fun w=>iU (v%256) w (by omega) (by omega));have HB:=Nc (show Below w.heap.size w w4 from HQ5.out.hb);have hg3:w.heap.size≤w3.heap.size:=by omega
   obtain⟨NI,hNI⟩:∃ NI,w3.heap.size=NI:=⟨_,rfl⟩;rw[hNI] at e0 e1 e2 e3 e4 e5 e6 fz3 hne1 hne2 hne3 hne4 hg3 hs4;rw[hNI];obtain⟨NR,hNR⟩:∃ NR,w.heap.size+1=NR:=⟨_,rfl⟩;have hgR:w.heap.size≤NR:=by omega
   rw[hNR] at fzr r0 r1 r2 r3 r4 r5 r6 hne2 hne3;rw[hNR];clear hNI hNR;rcases hcases.out with rfl|rfl|rfl|rfl|rfl|rfl|rfl|rfl|rfl|rfl|rfl|rfl|rfl|rfl|rfl|rfl|rfl|rfl
   ·have HK:=Nc (show fG q0 q1 q2 q3 q4=⟨op,0,0,0,0,0,z⟩ by rw[HI.out];simp only[fK,Int.reduceEq,if_true,if_false,HV.out])
    go_wp2_with fail
    refine bodyPost_ret (v:= .agg #[.int .i64 op,.int .i64 (0),.int .i64 (0),.int .u16 (0),.int .u16 (0),.int .i64 (0),.int .i64 z]) (by simp[results,Tryz.results20,go_sem,r0,r1,r2,r3,r4,r5,r6,fzr,fz3,hne1,hne2,hne3,hne4]) rfl ⟨by rw[HK.out];rfl,?_⟩;repeat (first | with_reducible exact HB.out | refine Below.setCell ?_ (by first | with_reducible exact hg3 | with_reducible exact hgR) _)
   ·have HK:=Nc (show fG q0 q1 q2 q3 q4=⟨op,q1%8,0,0,0,0,z⟩ by rw[HI.out];simp only[fK,Int.reduceEq,if_true,if_false,HV.out])
    go_wp2_with fail
    refine bodyPost_ret (v:= .agg #[.int .i64 op,.int .i64 (q1%8),.int .i64 (0),.int .u16 (0),.int .u16 (0),.int .i64 (0),.int .i64 z]) (by simp[results,Tryz.results20,go_sem,r0,r1,r2,r3,r4,r5,r6,fzr,fz3,hne1,hne2,hne3,hne4]) rfl ⟨by rw[HK.out];rfl,?_⟩;repeat (first | with_reducible exact HB.out | refine Below.setCell ?_ (by first | with_reducible exact hg3 | with_reducible exact hgR) _)
   ·have HK:=Nc (show fG q0 q1 q2 q3 q4=⟨op,0,0,v%256,0,0,z⟩ by rw[HI.out];simp only[fK,Int.reduceEq,if_true,if_false,HV.out])
    have x4:v.tmod 256=v%256:=by rw[Int.tmod_eq_emod_of_nonneg v0]
    have x6:IntKind.u16.wrap (v%256)=v%256:=by rw[IntKind.wrap_u16];omega
    go_wp2_with fail
    refine bodyPost_ret (v:= .agg #[.int .i64 op,.int .i64 (0),.int .i64 (0),.int .u16 (v%256),.int .u16 (0),.int .i64 (0),.int .i64 z]) (by simp[results,Tryz.results20,go_sem,r0,r1,r2,r3,r4,r5,r6,fzr,fz3,hne1,hne2,hne3,hne4]) rfl ⟨by rw[HK.out];rfl,?_⟩;repeat (first | with_reducible exact HB.out | refine Below.setCell ?_ (by first | with_reducible exact hg3 | with_reducible exact hgR) _)
   ·have HK:=Nc (show fG q0 q1 q2 q3 q4=⟨op,q1%8,q2%8,0,0,0,z⟩ by rw[HI.out];simp only[fK,Int.reduceEq,if_true,if_false,HV.out])
    go_wp2_with fail
    refine bodyPost_ret (v:= .agg #[.int .i64 op,.int .i64 (q1%8),.int .i64 (q2%8),.int .u16 (0),.int .u16 (0),.int .i64 (0),.int .i64 z]) (by simp[results,Tryz.results20,go_sem,r0,r1,r2,r3,r4,r5,r6,fzr,fz3,hne1,hne2,hne3,hne4]) rfl ⟨by rw[HK.out];rfl,?_⟩;repeat (first | with_reducible exact HB.out | refine Below.setCell ?_ (by first | with_reducible exact hg3 | with_reducible exact hgR) _)
   ·have HK:=Nc (show fG q0 q1 q2 q3 q4=⟨op,q1%8,0,dW (v%256),0,0,z⟩ by rw[HI.out];simp only[fK,Int.reduceEq,if_true,if_false,HV.out])
    go_wp2_with (go_at_call 46;refine(HX.out _).mono ?_;rintro e w' ⟨rfl,rfl⟩)
    refine bodyPost_ret (v:= .agg #[.int .i64 op,.int .i64 (q1%8),.int .i64 (0),.int .u16 (dW (v%256)),.int .u16 (0),.int .i64 (0),.int .i64 z]) (by simp[results,Tryz.results20,go_sem,r0,r1,r2,r3,r4,r5,r6,fzr,fz3,hne1,hne2,hne3,hne4]) rfl ⟨by rw[HK.out];rfl,?_⟩;repeat (first | with_reducible exact HB.out | refine Below.setCell ?_ (by first | with_reducible exact hg3 | with_reducible exact hgR) _)
   ·have HK:=Nc (show fG q0 q1 q2 q3 q4=⟨op,q1%8,0,v,0,0,z⟩ by rw[HI.out];simp only[fK,Int.reduceEq,if_true,if_false,HV.out])
    go_wp2_with fail
    refine bodyPost_ret (v:= .agg #[.int .i64 op,.int .i64 (q1%8),.int .i64 (0),.int .u16 (v),.int .u16 (0),.int .i64 (0),.int .i64 z]) (by simp[results,Tryz.results20,go_sem,r0,r1,r2,r3,r4,r5,r6,fzr,fz3,hne1,hne2,hne3,hne4]) rfl ⟨by rw[HK.out];rfl,?_⟩;repeat (first | with_reducible exact HB.out | refine Below.setCell ?_ (by first | with_reducible exact hg3 | with_reducible exact hgR) _)
   ·have HK:=Nc (show fG q0 q1 q2 q3 q4=⟨op,q1%8,q2%8,dW (v%256),0,0,z⟩ by rw[HI.out];simp only[fK,Int.reduceEq,if_true,if_false,HV.out])
    go_wp2_with (go_at_call 46;refine(HX.out _).mono ?_;rintro e w' ⟨rfl,rfl⟩)
    refine bodyPost_ret (v:= .agg #[.int .i64 op,.int .i64 (q1%8),.int .i64 (q2%8),.int .u16 (dW (v%256)),.int .u16 (0),.int .i64 (0),.int .i64 z]) (by simp[results,Tryz.results20,go_sem,r0,r1,r2,r3,r4,r5,r6,fzr,fz3,hne1,hne2,hne3,hne4]) rfl ⟨by rw[HK.out];rfl,?_⟩;repeat (first | with_reducible exact HB.out | refine Below.setCell ?_ (by first | with_reducible exact hg3 | with_reducible exact hgR) _)
   ·have HK:=Nc (show fG q0 q1 q2 q3 q4=⟨op,q1%8,q2%8,v,0,0,z⟩ by rw[HI.out];simp only[fK,Int.reduceEq,if_true,if_false,HV.out])
    go_wp2_with fail
    refine bodyPost_ret (v:= .agg #[.int .i64 op,.int .i64 (q1%8),.int .i64 (q2%8),.int .u16 (v),.int .u16 (0),.int .i64 (0),.int .i64 z]) (by simp[results,Tryz.results20,go_sem,r0,r1,r2,r3,r4,r5,r6,fzr,fz3,hne1,hne2,hne3,hne4]) rfl ⟨by rw[HK.out];rfl,?_⟩;repeat (first | with_reducible exact HB.out | refine Below.setCell ?_ (by first | with_reducible exact hg3 | with_reducible exact hgR) _)
   ·have HK:=Nc (show fG q0 q1 q2 q3 q4=⟨op,q1%8,0,v,0,0,z⟩ by rw[HI.out];simp only[fK,Int.reduceEq,if_true,if_false,HV.out])
    go_wp2_with fail
    refine bodyPost_ret (v:= .agg #[.int .i64 op,.int .i64 (q1%8),.int .i64 (0),.int .u16 (v),.int .u16 (0),.int .i64 (0),.int .i64 z]) (by simp[results,Tryz.results20,go_sem,r0,r1,r2,r3,r4,r5,r6,fzr,fz3,hne1,hne2,hne3,hne4]) rfl ⟨by rw[HK.out];rfl,?_⟩;repeat (first | with_reducible exact HB.out | refine Below.setCell ?_ (by first | with_reducible exact hg3 | with_reducible exact hgR) _)
   ·have HK:=Nc (show fG q0 q1 q2 q3 q4=⟨op,0,0,dW (v%256),0,0,z⟩ by rw[HI.out];simp only[fK,Int.reduceEq,if_true,if_false,HV.out])
    go_wp2_with (go_at_call 46;refine(HX.out _).mono ?_;rintro e w' ⟨rfl,rfl⟩)
    refine bodyPost_ret (v:= .agg #[.int .i64 op,.int .i64 (0),.int .i64 (0),.int .u16 (dW (v%256)),.int .u16 (0),.int .i64 (0),.int .i64 z]) (by simp[results,Tryz.results20,go_sem,r0,r1,r2,r3,r4,r5,r6,fzr,fz3,hne1,hne2,hne3,hne4]) rfl ⟨by rw[HK.out];rfl,?_⟩;repeat (first | with_reducible exact HB.out | refine Below.setCell ?_ (by first | with_reducible exact hg3 | with_reducible exact hgR) _)
   ·have HK:=Nc (show fG q0 q1 q2 q3 q4=⟨op,0,0,v,0,0,z⟩ by rw[HI.out];simp only[fK,Int.reduceEq,if_true,if_false,HV.out])
    go_wp2_with fail
    refine bodyPost_ret (v:= .agg #[.int .i64 op,.int .i64 (0),.int .i64 (0),.int .u16 (v),.int .u16 (0),.int .i64 (0),.int .i64 z]) (by simp[results,Tryz.results20,go_sem,r0,r1,r2,r3,r4,r5,r6,fzr,fz3,hne1,hne2,hne3,hne4]) rfl ⟨by rw[HK.out];rfl,?_⟩;repeat (first | with_reducible exact HB.out | refine Below.setCell ?_ (by first | with_reducible exact hg3 | with_reducible exact hgR) _)
   ·have HK:=Nc (show fG q0 q1 q2 q3 q4=⟨op,0,0,v,0,q4%64,z⟩ by rw[HI.out];simp only[fK,Int.reduceEq,if_true,if_false,HV.out])
    go_wp2_with fail
    refine bodyPost_ret (v:= .agg #[.int .i64 op,.int .i64 (0),.int .i64 (0),.int .u16 (v),.int .u16 (0),.int .i64 (q4%64),.int .i64 z]) (by simp[results,Tryz.results20,go_sem,r0,r1,r2,r3,r4,r5,r6,fzr,fz3,hne1,hne2,hne3,hne4]) rfl ⟨by rw[HK.out];rfl,?_⟩;repeat (first | with_reducible exact HB.out | refine Below.setCell ?_ (by first | with_reducible exact hg3 | with_reducible exact hgR) _)
   ·have HK:=Nc (show fG q0 q1 q2 q3 q4=⟨op,q1%8,0,v,q2%65536,1+q4%65536%255,z⟩ by rw[HI.out];simp only[fK,Int.reduceEq,if_true,if_false,HV.out])
    have x2:IntKind.u16.wrap q2=q2%65536:=by rw[IntKind.wrap_u16]
    have x4:(q4%65536).tmod 255=q4%65536%255:=by rw[Int.tmod_eq_emod_of_nonneg (by omega)]
    have x5:wrap64 (1+q4%65536%255)=1+q4%65536%255:=by unfold wrap64;omega
    have x6:IntKind.i64.wrap (q4%65536%255)=q4%65536%255:=IntWalk.i64_in _ (by omega);go_wp2_with fail
    refine bodyPost_ret (v:= .agg #[.int .i64 op,.int .i64 (q1%8),.int .i64 (0),.int .u16 (v),.int .u16 (q2%65536),.int .i64 (1+q4%65536%255),.int .i64 z]) (by simp[results,Tryz.results20,go_sem,r0,r1,r2,r3,r4,r5,r6,fzr,fz3,hne1,hne2,hne3,hne4]) rfl ⟨by rw[HK.out];rfl,?_⟩;repeat (first | with_reducible exact HB.out | refine Below.setCell ?_ (by first | with_reducible exact hg3 | with_reducible exact hgR) _)
   ·have HK:=Nc (show fG q0 q1 q2 q3 q4=⟨op,q1%8,0,v,0,0,z⟩ by rw[HI.out];simp only[fK,Int.reduceEq,if_true,if_false,HV.out])
    go_wp2_with fail
    refine bodyPost_ret (v:= .agg #[.int .i64 op,.int .i64 (q1%8),.int .i64 (0),.int .u16 (v),.int .u16 (0),.int .i64 (0),.int .i64 z]) (by simp[results,Tryz.results20,go_sem,r0,r1,r2,r3,r4,r5,r6,fzr,fz3,hne1,hne2,hne3,hne4]) rfl ⟨by rw[HK.out];rfl,?_⟩;repeat (first | with_reducible exact HB.out | refine Below.setCell ?_ (by first | with_reducible exact hg3 | with_reducible exact hgR) _)
   ·have HK:=Nc (show fG q0 q1 q2 q3 q4=⟨op,q1%8,0,v%256,0,0,z⟩ by rw[HI.out];simp only[fK,Int.reduceEq,if_true,if_false,HV.out])
    have x4:v.tmod 256=v%256:=by rw[Int.tmod_eq_emod_of_nonneg v0]
    have x6:IntKind.u16.wrap (v%256)=v%256:=by rw[IntKind.wrap_u16];omega
    go_wp2_with fail
    refine bodyPost_ret (v:= .agg #[.int .i64 op,.int .i64 (q1%8),.int .i64 (0),.int .u16 (v%256),.int .u16 (0),.int .i64 (0),.int .i64 z]) (by simp[results,Tryz.results20,go_sem,r0,r1,r2,r3,r4,r5,r6,fzr,fz3,hne1,hne2,hne3,hne4]) rfl ⟨by rw[HK.out];rfl,?_⟩;repeat (first | with_reducible exact HB.out | refine Below.setCell ?_ (by first | with_reducible exact hg3 | with_reducible exact hgR) _)
   ·have HK:=Nc (show fG q0 q1 q2 q3 q4=⟨op,q1%8,q2%8,v,0,q4%64,z⟩ by rw[HI.out];simp only[fK,Int.reduceEq,if_true,if_false,HV.out])
    go_wp2_with fail
    refine bodyPost_ret (v:= .agg #[.int .i64 op,.int .i64 (q1%8),.int .i64 (q2%8),.int .u16 (v),.int .u16 (0),.int .i64 (q4%64),.int .i64 z]) (by simp[results,Tryz.results20,go_sem,r0,r1,r2,r3,r4,r5,r6,fzr,fz3,hne1,hne2,hne3,hne4]) rfl ⟨by rw[HK.out];rfl,?_⟩;repeat (first | with_reducible exact HB.out | refine Below.setCell ?_ (by first | with_reducible exact hg3 | with_reducible exact hgR) _)
   ·have HK:=Nc (show fG q0 q1 q2 q3 q4=⟨op,0,q2%8,v,q4%65536,0,z⟩ by rw[HI.out];simp only[fK,Int.reduceEq,if_true,if_false,HV.out])
    have x4:IntKind.u16.wrap q4=q4%65536:=by rw[IntKind.wrap_u16]
    go_wp2_with fail
    refine bodyPost_ret (v:= .agg #[.int .i64 op,.int .i64 (0),.int .i64 (q2%8),.int .u16 (v),.int .u16 (q4%65536),.int .i64 (0),.int .i64 z]) (by simp[results,Tryz.results20,go_sem,r0,r1,r2,r3,r4,r5,r6,fzr,fz3,hne1,hne2,hne3,hne4]) rfl ⟨by rw[HK.out];rfl,?_⟩;repeat (first | with_reducible exact HB.out | refine Below.setCell ?_ (by first | with_reducible exact hg3 | with_reducible exact hgR) _)
   ·have HK:=Nc (show fG q0 q1 q2 q3 q4=⟨op,q1%8,0,dW (v%256),0,0,z⟩ by rw[HI.out];simp only[fK,Int.reduceEq,if_true,if_false,HV.out])
    go_wp2_with (go_at_call 46;refine(HX.out _).mono ?_;rintro e w' ⟨rfl,rfl⟩)
    refine bodyPost_ret (v:= .agg #[.int .i64 op,.int .i64 (q1%8),.int .i64 (0),.int .u16 (dW (v%256)),.int .u16 (0),.int .i64 (0),.int .i64 z]) (by simp[results,Tryz.results20,go_sem,r0,r1,r2,r3,r4,r5,r6,fzr,fz3,hne1,hne2,hne3,hne4]) rfl ⟨by rw[HK.out];rfl,?_⟩;repeat (first | with_reducible exact HB.out | refine Below.setCell ?_ (by first | with_reducible exact hg3 | with_reducible exact hgR) _)
end Go.Proofs.YthkcloapiefggaaGreatDoor
