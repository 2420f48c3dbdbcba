import Derived.Test.YthkcloapiefggaaGreatDoorQXqp
import Derived.Test.YthkcloapiefggaaGreatDoorQRefDec
namespace Go.Proofs.YthkcloapiefggaaGreatDoor
set_option linter.unusedVariables false
set_option linter.unusedSimpArgs false
set_option maxRecDepth 100000
set_option maxHeartbeats 1000000
open Go.ChangeShapes Go.WideShapes Go.RowKit
section
variable {E:Qe} {sv ov:Value} {S S0:Ms} {d:Nat} {k i:Int} {w:World}
theorem oQ{S:Ms}{a b:Int}(h:a/4096=b/4096):plB S a=plB S b:=by
 unfold plB;by_cases c:a < 4096
 ·rw[if_pos c,if_pos (by omega)]
 ·rw[if_neg c,if_neg (by omega)]
theorem zQ{b x y:Int}(h:x/4096=y/4096)(x0:0≤x)(y0:0≤y):part b x=part b y:=by
 unfold part;by_cases c:b=0∧x < 4096
 ·rw[if_pos c,if_pos ⟨c.1,by omega⟩]
 ·have c':¬ (b=0∧y < 4096):=by omega
  rw[if_neg c,if_neg c'];by_cases c2:0≤b∧b < 64∧4096≤x∧x < 8192
  ·have c3:0≤b∧b < 64∧4096≤y∧y < 8192:=by omega
   rw[if_pos c2,if_pos c3]
  ·have c3:¬ (0≤b∧b < 64∧4096≤y∧y < 8192):=by omega
   rw[if_neg c2,if_neg c3]
theorem qp{I:Im}{S:Ms}{k:Nat}(hp:U16 S.pc)(h:mG I S k=true):(S.pc+k)/4096=S.pc/4096∧S.pc+k < 8192∧cbB I S (S.pc+k)=true:=by
 obtain⟨p0,p1⟩:=hp;unfold mG at h;rw[Bool.and_eq_true] at h;rw[qw] at h;simp only[Bool.and_eq_true,decide_eq_true_eq] at h;obtain⟨⟨⟨h1,h2⟩,h3⟩,h4⟩:=h;obtain⟨l0,l1,l2,l3,l4,l5⟩:=jo _ _ p0 h1;have hq:(S.pc+k)/4096=S.pc/4096:=by omega
 refine⟨hq,by omega,?_⟩;unfold cbB;rw[oQ hq];exact h4
theorem CW{I:Im}{S:Ms}{k:Nat}(hp:U16 S.pc)(h:mG I S k=false):cbB I S ((S.pc+k)%65536)=false∨¬ (S.pc+k)/4096=S.pc/4096:=by
 obtain⟨p0,p1⟩:=hp;by_cases hq:(S.pc+k)/4096=S.pc/4096
 ·left
  have hlt:S.pc+k < 65536:=by omega
  rw[show(S.pc+k)%65536=S.pc+k by omega];cases hc:cbB I S (S.pc+k)
  ·rfl
  ·exfalso
   unfold cbB at hc;rw[oQ hq] at hc;have hc2:=hc;unfold gU at hc2;simp only[Bool.and_eq_true] at hc2;have h1:=hc2.1.1;rw[zQ hq (by omega) p0] at h1;obtain⟨l0,l1,l2,l3,l4,l5⟩:=jo _ _ p0 h1;have:mG I S k=true:=by
    unfold mG;rw[qw,h1,hc];simp only[Bool.and_true,Bool.true_and,Bool.and_eq_true,decide_eq_true_eq];omega
   rw[this] at h;cases h
 ·exact .inr hq
theorem Mq.gro{w':World}{g:Nat}{A:Array Value}(h:Mq E sv ov S d k i w)(hg:w.grownBy w' (some g))(hb:w.heap[g]? =some (.cells A 58 (0,0)))(h0:E.w0.heap.size≤g):Mq E sv ov S d k i w':=by
 obtain⟨B,h1,h2,h3⟩:=h.ram;refine⟨h.ok,h.env,Below.lG h.bel hg h0,(hg.block E.b h.lt (fun e=>?_)).trans h.blk,⟨B,(hg.block E.rb (lt_of_block h1) (fun e=>?_)).trans h1,h2,h3⟩,h.st.kept hg (fun q hq e=>?_),h.out.grown hg (Or.inr fun e=>?_),h.own⟩
 ·have:=h.blk;cases e;rw[hb] at this;simp at this
 ·cases e;rw[hb] at h1;simp at h1
 ·obtain⟨_,C,hC⟩:=h.st.typ hq;cases e;rw[hb] at hC;simp at hC
 ·obtain⟨C,hC⟩:=h.out.typ e;rw[hb] at hC;simp at hC
theorem Frq.gro{sv' ov':Value}{w0 w':World}{g:Nat}(h:Frq E sv ov w0 sv' ov' w)(hg:w.grownBy w' (some g))(h0:w0.heap.size≤g):Frq E sv ov w0 sv' ov' w':=
 ⟨Nat.le_trans h.size hg.size,fun q hq hn=>(hg.block q (Nat.lt_of_lt_of_le hq h.size) (fun e=>by cases e;omega)).trans (h.blk q hq hn),h.new⟩
def FtE(E:Qe)(sv ov:Value)(S:Ms)(d:Nat)(w:World)(R:Ft)(e:Ending)(w':World):Prop:=match R with
 | .ok i=>e= .returned (dN i)∧Mq E sv ov S d 0 0 w'∧Frq E sv ov w sv ov w'
 | .tr k i=>(∃ j,e= .returned (dN j))∧Mq E sv ov S d k i w'∧Frq E sv ov w sv ov w'
theorem FtE.y{R:Ft}{j:Ins}{e:Ending}{w':World}(hR:R= .ok j)(he:e= .returned (dN j))(hm:Mq E sv ov S d 0 0 w')(hf:Frq E sv ov w sv ov w'):FtE E sv ov S d w R e w':=by subst hR;exact⟨he,hm,hf⟩
theorem FtE.n{R:Ft}{j:Ins}{e:Ending}{w':World}(hR:R= .tr k i)(he:e= .returned (dN j))(hm:Mq E sv ov S d k i w')(hf:Frq E sv ov w sv ov w'):FtE E sv ov S d w R e w':=by subst hR;exact⟨⟨j,he⟩,hm,hf⟩
theorem zf(W:World)(p:Int):(convert 41 9 (.slice (some ⟨W.heap.size,0,none⟩) 1 1)).run Tryz.prog (W.alloc (.cells #[.int .u8 p] 5))= .ok (.string ⟨#[UInt8.ofNat p.toNat]⟩) (W.alloc (.cells #[.int .u8 p] 5)):=
  jy (f:=fun _=>p) (n:=1) (b:=W.heap.size) (o:=0) (fun j v hv=>by
    have hj:j < 1:=by have:=(List.getElem?_eq_some_iff.1 hv).1;simpa using this
    obtain rfl:j=0:=by omega
    rw[Nat.zero_add];exact ae (heap_alloc_new W _) 0 v (by rw[← hv];simp)) 1
theorem DV(s:ByteArray)(m k:Nat)(h:m+k < s.size):s.extract m (m+k)++⟨#[UInt8.ofNat (ba s (m+k)).toNat]⟩=s.extract m (m+(k+1)):=by
 apply ByteArray.ext;simp only[ByteArray.data_append,ByteArray.data_extract];apply Array.ext';simp only[Array.toList_append,Array.toList_extract];have hb:UInt8.ofNat (ba s (m+k)).toNat=s.data.toList[m+k]'h:=by
  unfold ba;rw[List.getElem?_eq_getElem h]
  simp
 rw[hb];have hl:k < (s.data.toList.drop m).length:=by
  have e:s.data.toList.length=s.size:=rfl;rw[List.length_drop,e];omega
 rw[List.extract_eq_take_drop,List.extract_eq_take_drop,show m+k-m=k by omega,show m+(k+1)-m=k+1 by omega,List.take_succ_eq_append_getElem hl]
 simp
theorem wM{I:Im}{S:Ms}{p:Int}{k:Nat}(hp:S.pc=p)(hu:U16 p)(h:∀ j,j≤k→mG I S j=true):cdV I (plB S p) p k++⟨#[UInt8.ofNat (cbV I S (p+k)).toNat]⟩=cdV I (plB S p) p ((k:Int)+1):=by
 subst hp;have h0:=qp hu (h 0 (Nat.zero_le _));have hk:=qp hu (h k (Nat.le_refl _));have ho:gU I (plB S S.pc) S.pc=true:=by
  have:=h0.2.2;rw[show S.pc+((0:Nat):Int)=S.pc from Int.add_zero _] at this;exact this
 have ho2:gU I (plB S S.pc) (S.pc+k)=true:=by
  have:=hk.2.2;unfold cbB at this;rw[oQ hk.1] at this;exact this
 obtain⟨b0,b1,b2⟩:=jM ho2;obtain⟨p0,p1⟩:=hu;have hm:(S.pc+k)%4096=S.pc%4096+k:=by have:=hk.1;omega
 have hv:cbV I S (S.pc+k)=ba (bk I.banks (plB S S.pc).toNat) ((S.pc%4096).toNat+k):=by
  unfold cbV;rw[oQ hk.1,hm]
  congr 1;omega
 rw[hm] at b2;have hj0:((S.pc%4096).toNat:Int)=S.pc%4096:=by omega
 obtain⟨s,hs⟩:∃ s,bk I.banks (plB S S.pc).toNat=s:=⟨_,rfl⟩;rw[hs] at b2 hv;rw[hv,kF,kF,if_neg (show ¬ (gU I (plB S S.pc) S.pc=false∨(k:Int)+1 < 1) by rw[ho];simp;omega),hs];unfold cdS;rw[show((min ((k:Int)+1) ((s.size:Int)-((S.pc%4096).toNat:Int))).toNat)=k+1 by omega];rw[← DV _ _ _ (by omega)];by_cases hz:k=0
 ·subst hz
  rw[if_pos (show gU I (plB S S.pc) S.pc=false∨((0:Nat):Int) < 1 from .inr (by decide))]
  congr 1
  apply ByteArray.ext
  simp
 ·rw[if_neg (show ¬ (gU I (plB S S.pc) S.pc=false∨(k:Int) < 1) by rw[ho];simp;omega)]
  congr 2
  omega
theorem Iy(op:Int):rZ op=(row op).z:=by
 cases h:known op with
 | true=>exact(oZ op h).2.1
 | false=>
  rw[(rJ op h).2];unfold known at h;unfold row;cases hf:lq op with
  | some k=>rw[hf] at h;cases h
  | none=>rfl
set_option maxHeartbeats 4000000 in
theorem xu(h:Mq E sv ov S d 0 0 w):
 Calls Tryz.prog 64 #[.pointer (some ⟨E.b,0,none⟩)] w (FtE E sv ov S d w (dI E.I S)):=by
 have hpc:=h.ok.pc;have hW0:=heap_alloc_new w (.cells #[.int .i64 0,.int .i64 0,.int .i64 0,.int .u16 0,.int .u16 0,.int .i64 0,.int .i64 0] 58);have HA:=Nc (h.alloc (.cells #[.int .i64 0,.int .i64 0,.int .i64 0,.int .u16 0,.int .u16 0,.int .i64 0,.int .i64 0] 58));have c15:=HA.out.at 15 (.int .u16 S.pc) rfl;have HP:=Nc hpc;have HW0:=Nc hW0;have HFA:=Nc ((Frq.refl E sv ov w).alloc (.cells #[.int .i64 0,.int .i64 0,.int .i64 0,.int .u16 0,.int .u16 0,.int .i64 0,.int .i64 0] 58));have HBs:=Nc (show E.w0.heap.size≤w.heap.size from h.bel.size);by_cases q:S.pc=65535
 ·have e:dI E.I S= .tr 6 0:=by unfold dI;rw[if_pos q]
  rw[e];rw[q] at c15;have HF:=Nc (dG 6 0 HA.out);clear h e q hpc hW0;go_enter Tryz.func64,Tryz.ntmps64
  go_wp2_with fail
  refine HF.out.mono ?_;rintro e w1 ⟨rfl,hm,hf⟩;have H1:=Nc hm;have F1:=Nc hf;have B1:=Nc (hf.keep HA.out HW0.out);have fz:=fun j=>frozen_of_row w1 w.heap.size j _ _ B1.out
  have r0:=ae B1.out 0 _ rfl;have r1:=ae B1.out 1 _ rfl;have r2:=ae B1.out 2 _ rfl;have r3:=ae B1.out 3 _ rfl;have r4:=ae B1.out 4 _ rfl;have r5:=ae B1.out 5 _ rfl;have r6:=ae B1.out 6 _ rfl;clear hm hf;go_wp2_with fail
  exact bodyPost_ret (v:=dN eH) (by simp[results,Tryz.results64,go_sem,r0,r1,r2,r3,r4,r5,r6,fz,eH,dN]) rfl (FtE.n rfl rfl (H1.out.gro (ag (ag (ag (ag (ag (ag (ag (ah _ _) _ _) _ _) _ _) _ _) _ _) _ _) _ _) B1.out HBs.out) ((HFA.out.trans F1.out).gro (ag (ag (ag (ag (ag (ag (ag (ah _ _) _ _) _ _) _ _) _ _) _ _) _ _) _ _) (Nat.le_refl _)))
 have HN:=Nc q;obtain⟨p,hp⟩:∃ p,S.pc=p:=⟨_,rfl⟩;have HQ:Hid (∀ W k',Mq E sv ov S d 0 0 W→k'≤300→Calls Tryz.prog 115 #[.pointer (some ⟨E.b,0,none⟩),.int .u16 ((p+(k':Nat))%65536)] W fun e w'=>CaE (cbB E.I S ((p+k')%65536)) (cbV E.I S ((p+k')%65536)) e∧W=w'):=Nc (fun W k' hm _=>nN _ hm (dU _));rw[hp] at c15;obtain⟨p0,p1⟩:=hp▸hpc;have q2:(p==65535)=false:=by rw[← hp];simpa using q
 clear h q hpc hW0;go_enter Tryz.func64,Tryz.ntmps64
 go_wp2_with fail
 go_loopw [3,4,5] (fun s n i wr=>∃ k:Nat,i= .int .i64 k∧Hid (k < 256)∧s= .string (cdV E.I (plB S p) p k)∧n= .int .i64 (if k=0 then 1 else(row (cbV E.I S p)).z)∧Hid (Mq E sv ov S d 0 0 wr∧Frq E sv ov w sv ov wr∧wr.heap[w.heap.size]? =some (.cells #[.int .i64 0,.int .i64 0,.int .i64 0,.int .u16 0,.int .u16 0,.int .i64 0,.int .i64 0] 58 (0,0)))∧Hid (∀ j,j < k→mG E.I S j=true)∧Hid (k≤1∨(k:Int)≤(row (cbV E.I S p)).z)) (fun _ _ i _=>300-(intOf i).toNat)
 case atStart=>exact⟨0,rfl,Nc (by decide),by rw[kF,if_pos (.inr (by decide))],rfl,Nc ⟨HA.out,HFA.out,HW0.out⟩,Nc (fun j hj=>absurd hj (Nat.not_lt_zero _)),Nc (.inl (by decide))⟩
 case round=>
  obtain⟨k,rfl,hk,rfl,rfl,HK,HO,HZ⟩:=hrel;have c15':=HK.out.1.at 15 (.int .u16 p) (hp▸rfl);by_cases hz:k=0
  ·subst hz
   rw[show(((0:Nat)):Int)=0 from rfl,if_pos rfl];have hq0:=HQ.out wr 0 HK.out.1 (by decide);rw[show(p+((0:Nat):Int))%65536=p by rw[show((0:Nat):Int)=0 from rfl];omega] at hq0;have hw0:IntKind.u16.wrap p=p:=by rw[IntKind.wrap_u16];omega
   cases hr:cbB E.I S p
   ·have ho:mG E.I S 0=false:=by
     cases c:mG E.I S 0
     ·rfl
     ·have:=(qp (hp▸⟨p0,p1⟩) c).2.2
      rw[hp,show(p+((0:Nat):Int))=p from Int.add_zero p,hr] at this;cases this
    have e:dI E.I S= .tr 2 p:=by unfold dI;rw[if_neg HN.out,if_pos ho,hp]
    rw[e];rw[hr] at hq0;have HQ0:=Nc hq0;have HF:=Nc (dG 2 p HK.out.1);clear hq0 hr ho e hp;go_wp2_with fail
    refine HQ0.out.mono ?_;rintro e w1 ⟨he,rfl⟩;cases he;go_wp2_with fail
    refine HF.out.mono ?_;rintro e w1 ⟨rfl,hm,hf⟩;have H1:=Nc hm;have F1:=Nc (HK.out.2.1.trans hf);have B1:=Nc (hf.keep HK.out.1 HK.out.2.2);have fz:=fun j=>frozen_of_row w1 w.heap.size j _ _ B1.out
    have r0:=ae B1.out 0 _ rfl;have r1:=ae B1.out 1 _ rfl;have r2:=ae B1.out 2 _ rfl;have r3:=ae B1.out 3 _ rfl;have r4:=ae B1.out 4 _ rfl;have r5:=ae B1.out 5 _ rfl;have r6:=ae B1.out 6 _ rfl;clear hm hf;go_wp2_with fail
    exact bodyPost_ret (v:=dN eH) (by simp[results,Tryz.results64,go_sem,r0,r1,r2,r3,r4,r5,r6,fz,eH,dN]) rfl (FtE.n rfl rfl (H1.out.gro (ag (ag (ag (ag (ag (ag (ag (ah _ _) _ _) _ _) _ _) _ _) _ _) _ _) _ _) B1.out HBs.out) (F1.out.gro (ag (ag (ag (ag (ag (ag (ag (ah _ _) _ _) _ _) _ _) _ _) _ _) _ _) _ _) (Nat.le_refl _)))
   ·have hx:=Nc (show 0≤cbV E.I S p∧cbV E.I S p < 256 from ay _ _)
    rw[hr] at hq0;have HX0:=Nc (show cbV E.I S p=cbV E.I S p from rfl);obtain⟨x,hxe⟩:∃ x,cbV E.I S p=x:=⟨_,rfl⟩;rw[hxe] at hq0 hx;obtain⟨x0,x1⟩:=hx.out;have HQ0:=Nc hq0;have HSz:=Nc (fun W=>jk x W x0 x1);have hcv:=zf wr x;have ho:mG E.I S 0=true:=by
     cases c:mG E.I S 0
     ·have:=CW (hp▸⟨p0,p1⟩) c
      rw[hp,show(p+((0:Nat):Int))=p from Int.add_zero p,show p%65536=p by omega,hr] at this;rcases this with h|h
      ·cases h
      ·exact absurd rfl h
     ·rfl
    have hs:=wM (k:=0) hp ⟨p0,p1⟩ (fun j hj=>by rw[show j=0 by omega];exact ho);rw[show(p+((0:Nat):Int))=p from Int.add_zero p,hxe,show(((0:Nat)):Int)=0 from rfl] at hs;have HN2:=Nc (show(0:Int)+1=1 from rfl);rw[HN2.out] at hs;obtain⟨t,ht⟩:∃ t,cdV E.I (plB S p) p 0=t:=⟨_,rfl⟩;obtain⟨u,hu⟩:∃ u:ByteArray,⟨#[UInt8.ofNat x.toNat]⟩=u:=⟨_,rfl⟩;have hsum:t.size+u.size≤maxLen:=by rw[← ht,← hu,kF,if_pos (.inr (by decide))];exact(by decide:0+1≤maxLen)
    rw[hu] at hcv hs;rw[ht] at hs⊢;clear ht hu;unfold maxLen at hsum;have HO2:=Nc ho;have HXE:=Nc hxe;clear hq0 ho hxe;go_wp2_with fail
    refine HQ0.out.mono ?_;rintro e w1 ⟨he,rfl⟩;cases he;go_wp2_with fail
    refine(HSz.out _).mono ?_;rintro e w1 ⟨rfl,hb⟩;have HB1:=Nc (show Below wr.heap.size wr w1 from((Below.refl _ wr).alloc (Nat.le_refl _) _).trans (hb.mono (by simp)));clear hb;go_wp2_with fail
    go_roundw
    case rel=>exact⟨1,rfl,Nc (by decide),rfl,by rw[if_neg (by decide),HXE.out,Iy x],Nc ⟨HK.out.1.kept HB1.out,HK.out.2.1.trans (Frq.below HB1.out),af HK.out.2.2 HB1.out⟩,Nc (fun j hj=>by rw[show j=0 by omega];exact HO2.out),Nc (.inl (Nat.le_refl _))⟩
    case measure=>simp[intOf]
  ·have hk1:1≤k:=by omega
   rw[if_neg hz];have hzb:=oD (cbV E.I S p);obtain⟨z,hze⟩:∃ z,(row (cbV E.I S p)).z=z:=⟨_,rfl⟩;have HZE:=Nc hze;rw[hze] at HZ hzb⊢;obtain⟨z0,z1⟩:=hzb;have hk':(k:Int) < 256:=by have:=hk.out;omega
   have hok0:=Nc (HO.out 0 (by omega));have hp8:p < 8192:=by have:=(qp (hp▸⟨p0,p1⟩) hok0.out).2.1;rw[hp] at this;omega
   have hk0:(1:Int)≤(k:Int):=by omega
   have hkz:((k:Int)==0)=false:=by simp;omega
   by_cases hlt:(k:Int) < z
   ·have hq0:=HQ.out wr k HK.out.1 (by have:=hk.out;omega)
    have hmod:(p+(k:Int))%65536=p+k:=by omega
    have hw0:IntKind.u16.wrap (p+(k:Int))=p+k:=by rw[IntKind.wrap_u16];omega
    rw[hmod] at hq0;cases hok:mG E.I S k
    ·have hcase:=CW (hp▸⟨p0,p1⟩) hok
     rw[hp,hmod] at hcase;have e:dI E.I S= .tr 2 (p+k):=by
      unfold dI;rw[if_neg HN.out,if_neg (by rw[hok0.out];decide),hp,if_neg (show ¬ (row (cbV E.I S p)).z=0 by rw[hze];omega),hze];have:zi E.I S z.toNat=some k:=iT _ _ k (by omega) (by simp[hok]) (fun j hj=>by simp[HO.out j hj]);rw[this]
     rw[e];have HF:=Nc (dG 2 (p+(k:Int)) HK.out.1);by_cases hpg:(p+(k:Int))/4096=p/4096
     ·have hr:cbB E.I S (p+k)=false:=by
       rcases hcase with h|h
       ·exact h
       ·exact absurd hpg h
      rw[hr] at hq0;have HQ0:=Nc hq0;clear hq0 hr hok hcase e hp hmod hpg hze HO HZ HZE hok0;go_wp2_with fail
      refine HQ0.out.mono ?_;rintro e w1 ⟨he,rfl⟩;cases he;go_wp2_with fail
      refine HF.out.mono ?_;rintro e w1 ⟨rfl,hm,hf⟩;have H1:=Nc hm;have F1:=Nc (HK.out.2.1.trans hf);have B1:=Nc (hf.keep HK.out.1 HK.out.2.2);have fz:=fun j=>frozen_of_row w1 w.heap.size j _ _ B1.out
      have r0:=ae B1.out 0 _ rfl;have r1:=ae B1.out 1 _ rfl;have r2:=ae B1.out 2 _ rfl;have r3:=ae B1.out 3 _ rfl;have r4:=ae B1.out 4 _ rfl;have r5:=ae B1.out 5 _ rfl;have r6:=ae B1.out 6 _ rfl;clear hm hf;go_wp2_with fail
      exact bodyPost_ret (v:=dN eH) (by simp[results,Tryz.results64,go_sem,r0,r1,r2,r3,r4,r5,r6,fz,eH,dN]) rfl (FtE.n rfl rfl (H1.out.gro (ag (ag (ag (ag (ag (ag (ag (ah _ _) _ _) _ _) _ _) _ _) _ _) _ _) _ _) B1.out HBs.out) (F1.out.gro (ag (ag (ag (ag (ag (ag (ag (ah _ _) _ _) _ _) _ _) _ _) _ _) _ _) _ _) (Nat.le_refl _)))
     ·have hpb:((p+(k:Int))/4096==p/4096)=false:=by simpa using hpg
      obtain⟨v,hv⟩:∃ v,cbB E.I S (p+k)=v:=⟨_,rfl⟩;obtain⟨x,hx⟩:∃ x,cbV E.I S (p+k)=x:=⟨_,rfl⟩;rw[hv,hx] at hq0;have HQ0:=Nc hq0;clear hq0 hv hx hok hcase e hp hmod hpg hze HO HZ HZE hok0;cases v
      ·go_wp2_with fail
       refine HQ0.out.mono ?_;rintro e w1 ⟨he,rfl⟩;cases he;go_wp2_with fail
       refine HF.out.mono ?_;rintro e w1 ⟨rfl,hm,hf⟩;have H1:=Nc hm;have F1:=Nc (HK.out.2.1.trans hf);have B1:=Nc (hf.keep HK.out.1 HK.out.2.2);have fz:=fun j=>frozen_of_row w1 w.heap.size j _ _ B1.out
       have r0:=ae B1.out 0 _ rfl;have r1:=ae B1.out 1 _ rfl;have r2:=ae B1.out 2 _ rfl;have r3:=ae B1.out 3 _ rfl;have r4:=ae B1.out 4 _ rfl;have r5:=ae B1.out 5 _ rfl;have r6:=ae B1.out 6 _ rfl;clear hm hf;go_wp2_with fail
       exact bodyPost_ret (v:=dN eH) (by simp[results,Tryz.results64,go_sem,r0,r1,r2,r3,r4,r5,r6,fz,eH,dN]) rfl (FtE.n rfl rfl (H1.out.gro (ag (ag (ag (ag (ag (ag (ag (ah _ _) _ _) _ _) _ _) _ _) _ _) _ _) _ _) B1.out HBs.out) (F1.out.gro (ag (ag (ag (ag (ag (ag (ag (ah _ _) _ _) _ _) _ _) _ _) _ _) _ _) _ _) (Nat.le_refl _)))
      ·go_wp2_with fail
       refine HQ0.out.mono ?_;rintro e w1 ⟨he,rfl⟩;cases he;go_wp2_with fail
       refine HF.out.mono ?_;rintro e w1 ⟨rfl,hm,hf⟩;have H1:=Nc hm;have F1:=Nc (HK.out.2.1.trans hf);have B1:=Nc (hf.keep HK.out.1 HK.out.2.2);have fz:=fun j=>frozen_of_row w1 w.heap.size j _ _ B1.out
       have r0:=ae B1.out 0 _ rfl;have r1:=ae B1.out 1 _ rfl;have r2:=ae B1.out 2 _ rfl;have r3:=ae B1.out 3 _ rfl;have r4:=ae B1.out 4 _ rfl;have r5:=ae B1.out 5 _ rfl;have r6:=ae B1.out 6 _ rfl;clear hm hf;go_wp2_with fail
       exact bodyPost_ret (v:=dN eH) (by simp[results,Tryz.results64,go_sem,r0,r1,r2,r3,r4,r5,r6,fz,eH,dN]) rfl (FtE.n rfl rfl (H1.out.gro (ag (ag (ag (ag (ag (ag (ag (ah _ _) _ _) _ _) _ _) _ _) _ _) _ _) _ _) B1.out HBs.out) (F1.out.gro (ag (ag (ag (ag (ag (ag (ag (ah _ _) _ _) _ _) _ _) _ _) _ _) _ _) _ _) (Nat.le_refl _)))
    ·have hy:=qp (hp▸⟨p0,p1⟩) hok
     rw[hp] at hy;have hpg:=hy.1;rw[hy.2.2] at hq0;have hx:=Nc (show 0≤cbV E.I S (p+k)∧cbV E.I S (p+k) < 256 from ay _ _);have hs:=wM (k:=k) hp ⟨p0,p1⟩ (fun j hj=>by
      rcases Nat.lt_or_ge j k with c|c
      ·exact HO.out j c
      ·rw[show j=k by omega];exact hok)
     obtain⟨x,hxe⟩:∃ x,cbV E.I S (p+k)=x:=⟨_,rfl⟩;rw[hxe] at hq0 hx hs;obtain⟨x0,x1⟩:=hx.out;have HQ0:=Nc hq0;have hcv:=zf wr x;obtain⟨t,ht⟩:∃ t,cdV E.I (plB S p) p k=t:=⟨_,rfl⟩;obtain⟨u,hu⟩:∃ u:ByteArray,⟨#[UInt8.ofNat x.toNat]⟩=u:=⟨_,rfl⟩;have hsum:t.size+u.size≤maxLen:=by
      have h1:t.size≤k:=by
       rw[← ht,kF]
       split
       ·exact Nat.zero_le _
       ·unfold cdS;rw[ByteArray.size_extract];omega
      have h2:u.size=1:=by rw[← hu];rfl
      have:=hk.out;unfold maxLen;omega
     rw[hu] at hcv hs;rw[ht] at hs⊢;have HOk:=Nc hok;unfold maxLen at hsum;have HB1:=Nc (show Below wr.heap.size wr (wr.alloc (.cells #[.int .u8 x] 5)) from(Below.refl _ wr).alloc (Nat.le_refl _) _);clear hq0 hok hy hxe ht hu hmod hze hp hx;go_wp2_with fail
     refine HQ0.out.mono ?_;rintro e w1 ⟨he,rfl⟩;cases he;go_wp2_with fail
     go_roundw
     case rel=>exact⟨k+1,by go_num,Nc (by have:=hk.out;omega),by rw[show(((k+1:Nat)):Int)=(k:Int)+1 by omega],by rw[if_neg (by omega)],Nc ⟨HK.out.1.kept HB1.out,HK.out.2.1.trans (Frq.below HB1.out),af HK.out.2.2 HB1.out⟩,Nc (fun j hj=>by
      rcases Nat.lt_or_ge j k with c|c
      ·exact HO.out j c
      ·rw[show j=k by omega];exact HOk.out),Nc (.inr (by omega))⟩
     case measure=>simp[intOf];omega
   ·have hsz:(cdV E.I (plB S p) p k).size≤maxLen:=by
     rw[kF]
     split
     ·exact Nat.zero_le _
     ·unfold cdS;rw[ByteArray.size_extract];have:=hk.out;unfold maxLen;omega
    have hfp:dI E.I S=if z=0 then .tr 3 0 else if fE (cdV E.I (plB S p) p k)=0 then .ok (fD (cdV E.I (plB S p) p k)) else .tr 3 0:=by
     unfold dI;rw[if_neg HN.out,if_neg (by rw[hok0.out];decide),hp,hze];by_cases c:z=0
     ·rw[if_pos c,if_pos c]
     ·rw[if_neg c,if_neg c]
      have hkz:(k:Int)=z:=by rcases HZ.out with h | h<;>omega
      have:zi E.I S z.toNat=none:=by
       unfold zi;rw[List.find?_eq_none];intro y hy;rw[HO.out y (by have:=List.mem_range.1 hy;omega)];decide
      rw[this,hkz]
    have HD:=Nc (fun W=>vN (cdV E.I (plB S p) p k) W hsz);obtain⟨D,hD⟩:∃ D,fE (cdV E.I (plB S p) p k)=D:=⟨_,rfl⟩;obtain⟨J,hJ⟩:∃ J,fD (cdV E.I (plB S p) p k)=J:=⟨_,rfl⟩;rw[hD,hJ] at hfp HD;obtain⟨op,di,si,im,ax,bk,sz⟩:=J;unfold dN at HD;clear hD hJ hsz hze hp hok0 HO HZE;by_cases c:z=0
    ·have HFP:=Nc (hfp.trans (if_pos c))
     subst c;clear hfp;go_wp2_with fail
     refine(HD.out _).mono ?_;rintro e w1 ⟨rfl,hb⟩;have HM:=Nc ((HK.out.1.kept hb).alloc (.cells #[.int .i64 op,.int .i64 di,.int .i64 si,.int .u16 im,.int .u16 ax,.int .i64 bk,.int .i64 sz] 58));have HFr:=Nc ((HK.out.2.1.trans (Frq.below hb)).alloc (.cells #[.int .i64 op,.int .i64 di,.int .i64 si,.int .u16 im,.int .u16 ax,.int .i64 bk,.int .i64 sz] 58));have HB1:=Nc (aj w1 (.cells #[.int .i64 op,.int .i64 di,.int .i64 si,.int .u16 im,.int .u16 ax,.int .i64 bk,.int .i64 sz] 58) _ (af HK.out.2.2 hb));have HN1:=Nc (heap_alloc_new w1 (.cells #[.int .i64 op,.int .i64 di,.int .i64 si,.int .u16 im,.int .u16 ax,.int .i64 bk,.int .i64 sz] 58));clear hb;go_wp2_with fail
     refine(dG 3 0 HM.out).mono ?_;rintro e w2 ⟨rfl,hm,hf⟩;have H2:=Nc hm;have F2:=Nc (HFr.out.trans hf);have B2:=Nc (hf.keep HM.out HB1.out);have N2:=Nc (hf.keep HM.out HN1.out);clear hm hf;have fz:∀ j,(w2).frozen? ⟨w.heap.size,j,none⟩=false:=fun j=>frozen_of_row _ w.heap.size j _ _ B2.out
     have r0:(w2).cell? ⟨w.heap.size,0,none⟩=_:=ae B2.out 0 _ rfl;have r1:(w2).cell? ⟨w.heap.size,1,none⟩=_:=ae B2.out 1 _ rfl;have r2:(w2).cell? ⟨w.heap.size,2,none⟩=_:=ae B2.out 2 _ rfl;have r3:(w2).cell? ⟨w.heap.size,3,none⟩=_:=ae B2.out 3 _ rfl;have r4:(w2).cell? ⟨w.heap.size,4,none⟩=_:=ae B2.out 4 _ rfl;have r5:(w2).cell? ⟨w.heap.size,5,none⟩=_:=ae B2.out 5 _ rfl;have r6:(w2).cell? ⟨w.heap.size,6,none⟩=_:=ae B2.out 6 _ rfl;have s0:w2.cell? ⟨w1.heap.size,0,none⟩=_:=ae N2.out 0 _ rfl;have s1:w2.cell? ⟨w1.heap.size,1,none⟩=_:=ae N2.out 1 _ rfl;have s2:w2.cell? ⟨w1.heap.size,2,none⟩=_:=ae N2.out 2 _ rfl;have s3:w2.cell? ⟨w1.heap.size,3,none⟩=_:=ae N2.out 3 _ rfl;have s4:w2.cell? ⟨w1.heap.size,4,none⟩=_:=ae N2.out 4 _ rfl;have s5:w2.cell? ⟨w1.heap.size,5,none⟩=_:=ae N2.out 5 _ rfl;have s6:w2.cell? ⟨w1.heap.size,6,none⟩=_:=ae N2.out 6 _ rfl;go_wp2_with fail
     exact bodyPost_ret (v:=dN ⟨op,di,si,im,ax,bk,sz⟩) (by simp[results,Tryz.results64,go_sem,r0,r1,r2,r3,r4,r5,r6,fz,dN]) rfl (FtE.n HFP.out rfl (H2.out.gro (ag (ag (ag (ag (ag (ag (ag (ah _ _) _ _) _ _) _ _) _ _) _ _) _ _) _ _) B2.out HBs.out) (F2.out.gro (ag (ag (ag (ag (ag (ag (ag (ah _ _) _ _) _ _) _ _) _ _) _ _) _ _) _ _) (Nat.le_refl _)))
    ·have hfp2:=hfp.trans (if_neg c)
     have hzb:(z==0)=false:=by simpa using c
     clear hfp;by_cases cD:D=0
     ·have HFP:=Nc (hfp2.trans (if_pos cD))
      subst cD;clear hfp2 c;go_wp2_with fail
      refine(HD.out _).mono ?_;rintro e w1 ⟨rfl,hb⟩;have HM:=Nc ((HK.out.1.kept hb).alloc (.cells #[.int .i64 op,.int .i64 di,.int .i64 si,.int .u16 im,.int .u16 ax,.int .i64 bk,.int .i64 sz] 58));have HFr:=Nc ((HK.out.2.1.trans (Frq.below hb)).alloc (.cells #[.int .i64 op,.int .i64 di,.int .i64 si,.int .u16 im,.int .u16 ax,.int .i64 bk,.int .i64 sz] 58));have HB1:=Nc (aj w1 (.cells #[.int .i64 op,.int .i64 di,.int .i64 si,.int .u16 im,.int .u16 ax,.int .i64 bk,.int .i64 sz] 58) _ (af HK.out.2.2 hb));have HN1:=Nc (heap_alloc_new w1 (.cells #[.int .i64 op,.int .i64 di,.int .i64 si,.int .u16 im,.int .u16 ax,.int .i64 bk,.int .i64 sz] 58));clear hb;have fz:∀ j,(w1.alloc (.cells #[.int .i64 op,.int .i64 di,.int .i64 si,.int .u16 im,.int .u16 ax,.int .i64 bk,.int .i64 sz] 58)).frozen? ⟨w.heap.size,j,none⟩=false:=fun j=>frozen_of_row _ w.heap.size j _ _ HB1.out
      have r0:(w1.alloc (.cells #[.int .i64 op,.int .i64 di,.int .i64 si,.int .u16 im,.int .u16 ax,.int .i64 bk,.int .i64 sz] 58)).cell? ⟨w.heap.size,0,none⟩=_:=ae HB1.out 0 _ rfl;have r1:(w1.alloc (.cells #[.int .i64 op,.int .i64 di,.int .i64 si,.int .u16 im,.int .u16 ax,.int .i64 bk,.int .i64 sz] 58)).cell? ⟨w.heap.size,1,none⟩=_:=ae HB1.out 1 _ rfl;have r2:(w1.alloc (.cells #[.int .i64 op,.int .i64 di,.int .i64 si,.int .u16 im,.int .u16 ax,.int .i64 bk,.int .i64 sz] 58)).cell? ⟨w.heap.size,2,none⟩=_:=ae HB1.out 2 _ rfl;have r3:(w1.alloc (.cells #[.int .i64 op,.int .i64 di,.int .i64 si,.int .u16 im,.int .u16 ax,.int .i64 bk,.int .i64 sz] 58)).cell? ⟨w.heap.size,3,none⟩=_:=ae HB1.out 3 _ rfl;have r4:(w1.alloc (.cells #[.int .i64 op,.int .i64 di,.int .i64 si,.int .u16 im,.int .u16 ax,.int .i64 bk,.int .i64 sz] 58)).cell? ⟨w.heap.size,4,none⟩=_:=ae HB1.out 4 _ rfl;have r5:(w1.alloc (.cells #[.int .i64 op,.int .i64 di,.int .i64 si,.int .u16 im,.int .u16 ax,.int .i64 bk,.int .i64 sz] 58)).cell? ⟨w.heap.size,5,none⟩=_:=ae HB1.out 5 _ rfl;have r6:(w1.alloc (.cells #[.int .i64 op,.int .i64 di,.int .i64 si,.int .u16 im,.int .u16 ax,.int .i64 bk,.int .i64 sz] 58)).cell? ⟨w.heap.size,6,none⟩=_:=ae HB1.out 6 _ rfl;go_wp2_with fail
      exact bodyPost_ret (v:=dN ⟨op,di,si,im,ax,bk,sz⟩) (by simp[results,Tryz.results64,go_sem,r0,r1,r2,r3,r4,r5,r6,fz,dN]) rfl (FtE.y HFP.out rfl (HM.out.gro (ag (ag (ag (ag (ag (ag (ag (ah _ _) _ _) _ _) _ _) _ _) _ _) _ _) _ _) HB1.out HBs.out) (HFr.out.gro (ag (ag (ag (ag (ag (ag (ag (ah _ _) _ _) _ _) _ _) _ _) _ _) _ _) _ _) (Nat.le_refl _)))
     ·have HFP:=Nc (hfp2.trans (if_neg cD))
      have hDb:(D==0)=false:=by simpa using cD
      clear hfp2 cD c;go_wp2_with fail
      refine(HD.out _).mono ?_;rintro e w1 ⟨rfl,hb⟩;have HM:=Nc ((HK.out.1.kept hb).alloc (.cells #[.int .i64 op,.int .i64 di,.int .i64 si,.int .u16 im,.int .u16 ax,.int .i64 bk,.int .i64 sz] 58));have HFr:=Nc ((HK.out.2.1.trans (Frq.below hb)).alloc (.cells #[.int .i64 op,.int .i64 di,.int .i64 si,.int .u16 im,.int .u16 ax,.int .i64 bk,.int .i64 sz] 58));have HB1:=Nc (aj w1 (.cells #[.int .i64 op,.int .i64 di,.int .i64 si,.int .u16 im,.int .u16 ax,.int .i64 bk,.int .i64 sz] 58) _ (af HK.out.2.2 hb));have HN1:=Nc (heap_alloc_new w1 (.cells #[.int .i64 op,.int .i64 di,.int .i64 si,.int .u16 im,.int .u16 ax,.int .i64 bk,.int .i64 sz] 58));clear hb;go_wp2_with fail
      refine(dG 3 0 HM.out).mono ?_;rintro e w2 ⟨rfl,hm,hf⟩;have H2:=Nc hm;have F2:=Nc (HFr.out.trans hf);have B2:=Nc (hf.keep HM.out HB1.out);have N2:=Nc (hf.keep HM.out HN1.out);clear hm hf;have fz:∀ j,(w2).frozen? ⟨w.heap.size,j,none⟩=false:=fun j=>frozen_of_row _ w.heap.size j _ _ B2.out
      have r0:(w2).cell? ⟨w.heap.size,0,none⟩=_:=ae B2.out 0 _ rfl;have r1:(w2).cell? ⟨w.heap.size,1,none⟩=_:=ae B2.out 1 _ rfl;have r2:(w2).cell? ⟨w.heap.size,2,none⟩=_:=ae B2.out 2 _ rfl;have r3:(w2).cell? ⟨w.heap.size,3,none⟩=_:=ae B2.out 3 _ rfl;have r4:(w2).cell? ⟨w.heap.size,4,none⟩=_:=ae B2.out 4 _ rfl;have r5:(w2).cell? ⟨w.heap.size,5,none⟩=_:=ae B2.out 5 _ rfl;have r6:(w2).cell? ⟨w.heap.size,6,none⟩=_:=ae B2.out 6 _ rfl;have s0:w2.cell? ⟨w1.heap.size,0,none⟩=_:=ae N2.out 0 _ rfl;have s1:w2.cell? ⟨w1.heap.size,1,none⟩=_:=ae N2.out 1 _ rfl;have s2:w2.cell? ⟨w1.heap.size,2,none⟩=_:=ae N2.out 2 _ rfl;have s3:w2.cell? ⟨w1.heap.size,3,none⟩=_:=ae N2.out 3 _ rfl;have s4:w2.cell? ⟨w1.heap.size,4,none⟩=_:=ae N2.out 4 _ rfl;have s5:w2.cell? ⟨w1.heap.size,5,none⟩=_:=ae N2.out 5 _ rfl;have s6:w2.cell? ⟨w1.heap.size,6,none⟩=_:=ae N2.out 6 _ rfl;go_wp2_with fail
      exact bodyPost_ret (v:=dN ⟨op,di,si,im,ax,bk,sz⟩) (by simp[results,Tryz.results64,go_sem,r0,r1,r2,r3,r4,r5,r6,fz,dN]) rfl (FtE.n HFP.out rfl (H2.out.gro (ag (ag (ag (ag (ag (ag (ag (ah _ _) _ _) _ _) _ _) _ _) _ _) _ _) _ _) B2.out HBs.out) (F2.out.gro (ag (ag (ag (ag (ag (ag (ag (ah _ _) _ _) _ _) _ _) _ _) _ _) _ _) _ _) (Nat.le_refl _)))
end
end Go.Proofs.YthkcloapiefggaaGreatDoor
