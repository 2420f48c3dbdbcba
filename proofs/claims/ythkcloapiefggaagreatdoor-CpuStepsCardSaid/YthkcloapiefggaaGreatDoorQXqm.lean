import Derived.Test.YthkcloapiefggaaGreatDoorQRma
namespace Go.Proofs.YthkcloapiefggaaGreatDoor
set_option linter.unusedVariables false
set_option linter.unusedSimpArgs false
set_option maxRecDepth 100000
set_option maxHeartbeats 1000000
open Go.ChangeShapes Go.WideShapes Go.RowKit
section
variable {E:Qe} {sv ov:Value} {S:Ms} {d:Nat} {k i:Int} {w:World}
theorem Mq.JH(h:Mq E sv ov S d k i w)(k' i':Int):Mq E sv ov S d k' i' ((w.setCell ⟨E.b,26,none⟩ (.int .i64 k')).setCell ⟨E.b,27,none⟩ (.int .u16 i')):=
 (h.set1 (k':=k') (i':=i) 26 (.int .i64 k') rfl h.ok rfl rfl rfl rfl).set1 27 (.int .u16 i') rfl h.ok rfl rfl rfl rfl
theorem Stq.form{base:Nat}{w:World}{v:Value}{n d:Nat}{f:Nat→Int}(h:Stq base w v n d f):∃ p c,v= .slice p n c∧n≤c∧c≤maxLen∧(p=none→n=0)∧∀ a,p=some a→∃ g,a=⟨g,0,none⟩:=by
 rcases h with⟨rfl,rfl,_⟩|⟨g,c,A,rfl,_,_,_,hn,_,hc,_⟩
 ·exact⟨none,0,rfl,Nat.le_refl _,Nat.zero_le _,fun _=>rfl,fun a h=>by cases h⟩
 ·exact⟨some ⟨g,0,none⟩,c,rfl,hn,hc,(fun h=>by cases h),(fun a h=>⟨g,by cases h;rfl⟩)⟩
theorem Stq.pos{base:Nat}{w:World}{v:Value}{n d:Nat}{f:Nat→Int}(h:Stq base w v n d f)(hn:0 < n):∃ g c,v= .slice (some ⟨g,0,none⟩) n c∧n≤c∧c≤maxLen:=by
 rcases h with⟨rfl,rfl,_⟩|⟨g,c,A,rfl,_,_,_,hn,_,hc,_⟩
 ·omega
 ·exact⟨g,c,rfl,hn,hc⟩
theorem Stq.cell{base:Nat}{w:World}{g c n d:Nat}{f:Nat→Int}(h:Stq base w (.slice (some ⟨g,0,none⟩) n c) n d f)(j:Nat)(hj:j < n):w.cell? ⟨g,j,none⟩=some (.int .u16 (f j)):=by
 rcases h with⟨h,_⟩|⟨g',c',A,h,_,hA,_,_,_,_,hf⟩
 ·cases h
 ·injection h with h1 h2 h3
  injection h1 with h1;injection h1 with h1;subst h1;exact ae hA j _ (hf j (.inl hj))
theorem Mq.app(h:Mq E sv ov S d k i w)(hd:d≤S.sp)(hs:S.sp < 4096){x:Int}(hx:U16 x){g cap:Nat}{w':World}
  (ho:w'.ownsRow E.w0.heap.size 29 1 (.slice (some ⟨g,0,none⟩) (S.sp+1) cap) (S.sp+1) (stL S.stk S.sp++[.int .u16 x])) (hg:w.grownBy w' sv.ownBlock) (hl:sv.ownBlock=some g∨g=w.heap.size):
  Mq E (.slice (some ⟨g,0,none⟩) (S.sp+1) cap) ov (psh S x) d k i (w'.setCell ⟨E.b,24,none⟩ (.slice (some ⟨g,0,none⟩) (S.sp+1) cap))∧Frq E sv ov w (.slice (some ⟨g,0,none⟩) (S.sp+1) cap) ov (w'.setCell ⟨E.b,24,none⟩ (.slice (some ⟨g,0,none⟩) (S.sp+1) cap)):=by
 have hb':w'.heap[E.b]? =some (.cells (mqA E S sv ov k i) 96 (0,0)):=(hg.block E.b h.lt (fun e=>(h.nst e.symm).1 rfl)).trans h.blk;obtain⟨A,a1,a2,a3⟩:=h.ram;have hr':=(hg.block E.rb (lt_of_block a1) (fun e=>(h.nst e.symm).2 rfl)).trans a1;have hst:Stq E.w0.heap.size w' (.slice (some ⟨g,0,none⟩) (S.sp+1) cap) (S.sp+1) d (upd S.stk S.sp x):=Stq.of (by rw[Bo];exact ho) (by omega);have hout:Evs w' ov S.out:=h.out.grown hg (by
  cases e:rowOf ov with
  | none=>exact .inl rfl
  | some q=>exact .inr fun c=>(h.rD e).2.2 c.symm)
 have hbel:Below E.w0.heap.size E.w0 w':=h.bel.grown hg h.bel.size (fun q hq=>(h.st.typ hq).1);have hs2:=grown_setCell w' E.b 24 (.slice (some ⟨g,0,none⟩) (S.sp+1) cap);have hne:E.b≠g:=fun e=>by
  obtain⟨_,B,hB⟩:=hst.typ (g:=g) rfl;rw[← e,hb'] at hB;simp at hB
 refine⟨⟨{h.ok with sp:=by show S.sp+1≤4096;omega,stk:=jD h.ok.stk hx},h.env,Below.lG hbel hs2 h.env.b,?_,⟨A,(hs2.block E.rb (lt_of_block hr') (fun e=>h.brb (by simpa using e.symm))).trans hr',a2,a3⟩,hst.kept hs2 (fun q hq e=>?_),hout.grown hs2 (Or.inr fun e=>?_),h.own⟩,?_⟩
 ·exact bP w' E.b 24 _ _ _ _ hb'
 ·have hq':q=g:=by
   have:=hq;simp[Value.ownBlock] at this;exact this.symm
  exact hne (by simp at e;omega)
 ·exact(h.rD e).1 rfl
 ·refine⟨by have:=hg.size;simpa using this,fun q hq hn=>?_,fun q hq hm=>?_⟩
  ·exact(hs2.block q (Nat.lt_of_lt_of_le hq hg.size) (fun e=>hn (.inl (by simpa using e)))).trans (hg.block q hq (fun e=>hn (.inr (.inr (.inl e.symm)))))
  ·rcases hm with e|e|e|e
   ·exact .inl e
   ·exact .inr (.inl e)
   ·have hq':g=q:=by
     have:=e;simp[Value.ownBlock] at this;exact this
    rcases hl with hl|hl
    ·exact .inr (.inr (.inl (hq'▸hl)))
    ·omega
   ·exact .inr (.inr (.inr e))
theorem Mq.cut{g c:Nat}(h:Mq E (.slice (some ⟨g,0,none⟩) S.sp c) ov S d k i w)(n:Nat)(hn:n≤S.sp∨n≤d)(h4:n≤4096):
  Mq E (.slice (some ⟨g,0,none⟩) n c) ov {S with sp:=n} d k i (w.setCell ⟨E.b,24,none⟩ (.slice (some ⟨g,0,none⟩) n c)):=by
 refine h.set 24 _ rfl {h.ok with sp:=h4} rfl ?_ h.out h.own;rcases h.st with⟨hv,_⟩|⟨g',c',A,hv,hb,hA,hs,h1,h2,h3,hf⟩
 ·cases hv
 ·injection hv with e1 e2 e3
  injection e1 with e1;injection e1 with e1;subst e1 e3;exact .inr ⟨g,c,A,rfl,hb,hA,hs,by show n≤c;omega,h2,h3,fun j hj=>hf j (by have:j < n∨j < d:=hj;omega)⟩
theorem Frq.cut{w0:World}{g c m n:Nat}(h:Frq E sv ov w0 (.slice (some ⟨g,0,none⟩) m c) ov w):Frq E sv ov w0 (.slice (some ⟨g,0,none⟩) n c) ov w:=h.lists (fun q hq hm=>h.new q hq (by
 rcases hm with e|e|e|e
 ·exact .inl e
 ·exact .inr (.inl e)
 ·exact .inr (.inr (.inl (by simpa [Value.ownBlock] using e)))
 ·exact .inr (.inr (.inr e))))
theorem Mq.dep(h:Mq E sv ov S d k i w)(d':Nat)(hd:d'≤S.sp∨d'≤d):Mq E sv ov S d' k i w:=by
 refine {h with st:=?_};rcases h.st with⟨a,b,c⟩|⟨g',c',A,hv,hb,hA,hs,h1,h2,h3,hf⟩
 ·exact .inl ⟨a,b,by omega⟩
 ·exact .inr ⟨g',c',A,hv,hb,hA,hs,h1,by omega,h3,fun j hj=>hf j (by omega)⟩
end
def Jt(E:Qe)(S0:Ms)(sv0 ov0:Value)(w0:World)(P:Ms→Int→Int→Prop)(w:World):Prop:=∃ sv ov S k i,Mq E sv ov S S0.sp k i w∧Frq E sv0 ov0 w0 sv ov w∧Kp S0 S∧P S k i
def Full(m:Nat)(n:Nat)(S:Ms)(k i:Int):Prop:=n≤S.sp∧((k=5∧i=0)∨(k=0∧i=0∧4096 < S.sp+m))
def jB(m:Nat)(S:Ms)(k i:Int):Prop:=(k=5∧i=0)∨(k=0∧i=0∧S.sp < m)
section
variable {E:Qe} {sv ov:Value} {S S0:Ms} {d:Nat} {k i:Int} {w:World}
theorem dG(k' i':Int)(h:Mq E sv ov S d 0 0 w):
  Calls Tryz.prog 65 #[.pointer (some ⟨E.b,0,none⟩),.int .i64 k',.int .u16 i'] w fun e w'=>e= .returned (.tuple #[])∧Mq E sv ov S d k' i' w'∧Frq E sv ov w sv ov w':=by
 have c26:=h.at 26 (.int .i64 0) rfl;have c27:=h.at 27 (.int .u16 0) rfl;have hf:=h.frz;have HX:=Nc (h.JH k' i');have HF:=Nc (((Frq.refl E sv ov w).set 26 (.int .i64 k')).set 27 (.int .u16 i'));clear h;go_enter Tryz.func65,Tryz.ntmps65
 go_wp2_with fail
 go_end0
 exact⟨rfl,HX.out,HF.out⟩
theorem zK(k' i':Int)(h:Mq E sv ov S d k i w)(hk:k≠0):
  Calls Tryz.prog 65 #[.pointer (some ⟨E.b,0,none⟩),.int .i64 k',.int .u16 i'] w fun e w'=>e= .returned (.tuple #[])∧w=w':=by
 have c26:=h.at 26 (.int .i64 k) rfl;have hb:(k==0)=false:=by simpa using hk
 clear h;go_enter Tryz.func65,Tryz.ntmps65
 go_wp2_with fail
 go_end0
 exact⟨rfl,rfl⟩
theorem yI(h:Mq E sv ov S d k i w)(hk:(k=5∧i=0)∨(k=0∧i=0)):
  Calls Tryz.prog 65 #[.pointer (some ⟨E.b,0,none⟩),.int .i64 5,.int .u16 0] w fun e w'=>e= .returned (.tuple #[])∧Mq E sv ov S d 5 0 w'∧Frq E sv ov w sv ov w':=by
 rcases hk with⟨rfl,rfl⟩|⟨rfl,rfl⟩
 ·exact(zK 5 0 h (by decide)).mono (by rintro e w' ⟨he,rfl⟩;exact⟨he,h,Frq.refl _ _ _ _⟩)
 ·exact dG 5 0 h
theorem Kv:(Tryz.prog.info? 29).map (fun i=>(i.zero,i.size,i.bytes))=some (some (.int .u16 0),1,2):=by kernel_rfl
theorem fB(x:Int)(h:Mq E sv ov S d k i w)(hd:d≤S.sp)(hs:S.sp < 4096)(hx:U16 x):
  Calls Tryz.prog 117 #[.pointer (some ⟨E.b,0,none⟩),.int .u16 x] w fun e w'=>e= .returned (.tuple #[])∧∃ sv',Mq E sv' ov (psh S x) d k i w'∧Frq E sv ov w sv' ov w':=by
 obtain⟨i0,hi,hz0,hz1,hz2⟩:=info_parts Kv;obtain⟨p,c,hv,_,_,_,_⟩:=h.st.form;subst hv;have c24:=h.at 24 (.slice p S.sp c) rfl;have HA:=Nc (h.alloc (.cells #[.int .u16 x] 29));have HN:=Nc (heap_alloc_new w (.cells #[.int .u16 x] 29));have hs':(S.sp:Int) < 4096:=by omega
 have HH:=Nc (And.intro hd (And.intro hs hx));clear h hd hs hx;go_enter Tryz.func117,Tryz.ntmps117
 go_wp2_with (at_builtin;refine wpList_append_lies _ rfl _ _ 37 rfl E.w0.heap.size 29 i0 (.int .u16 0) 1 2 Tryz.underlying37 hi hz0 hz1 hz2 rfl (by decide) _ _ _ rfl HA.out.st.own ⟨w.heap.size,0,none⟩ 1 1 [.int .u16 x] rfl rfl (World.news_of_block HN.out) (by intro u hu;simp at hu;subst hu;rfl) (by decide) (by unfold maxLen;omega) (by omega) HA.out.bel.size _ rfl ?_)
 intro g cap w' ho hg hl hlt;have HX:=Nc (HA.out.app HH.out.1 HH.out.2.1 HH.out.2.2 ho hg (by simpa using hl));have hne:some E.b≠(Value.slice p S.sp c).ownBlock:=fun e=>(HA.out.nst e.symm).1 rfl
 have c24':w'.cell? ⟨E.b,24,none⟩=some (.slice p S.sp c):=(hg.cell_far ⟨E.b,24,none⟩ HA.out.lt hne).trans (HA.out.at 24 _ rfl);have hf:∀ j,w'.frozen? ⟨E.b,j,none⟩=false:=fun j=>(hg.frozen_far ⟨E.b,j,none⟩ HA.out.lt hne).trans (HA.out.frz j)
 clear ho hg hl hlt c24 hne;go_wp2_with fail
 go_end0
 exact⟨rfl,_,HX.out.1,(Frq.below ((Below.refl _ _).alloc (Nat.le_refl _) _)).trans HX.out.2⟩
theorem vS(x:Int)(h:Mq E sv ov S d k i w)(hs:4096≤S.sp)(hx:U16 x)(hk:(k=5∧i=0)∨(k=0∧i=0)):
  Calls Tryz.prog 117 #[.pointer (some ⟨E.b,0,none⟩),.int .u16 x] w fun e w'=>e= .returned (.tuple #[])∧Mq E sv ov S d 5 0 w'∧Frq E sv ov w sv ov w':=by
 obtain⟨p,c,hv,_,_,_,_⟩:=h.st.form;subst hv;have c24:=h.at 24 (.slice p S.sp c) rfl;have HF:=Nc (yI h hk);have hs':¬ (S.sp:Int) < 4096:=by omega
 clear h hs hx hk;go_enter Tryz.func117,Tryz.ntmps117
 go_wp2_with fail
 refine HF.out.mono ?_;rintro e w' ⟨rfl,hm,hf⟩;have HX:=Nc (And.intro hm hf);clear hm hf;go_wp2_with fail
 refine bodyPost_ret (results_none rfl _ _ _) rfl ?_;exact⟨rfl,HX.out.1,HX.out.2⟩
theorem fU(x:Int)(m:Nat){sv0 ov0:Value}{w0:World}(h:Jt E S0 sv0 ov0 w0 (Full (m+1) S0.sp) w)(hx:U16 x):
  Calls Tryz.prog 117 #[.pointer (some ⟨E.b,0,none⟩),.int .u16 x] w fun e w'=>e= .returned (.tuple #[])∧Jt E S0 sv0 ov0 w0 (Full m S0.sp) w':=by
 obtain⟨sv,ov,S,k,i,hm,hf,hk,hn,hp⟩:=h;by_cases hs:S.sp < 4096
 ·refine(fB x hm hn hs hx).mono ?_
  rintro e w' ⟨he,sv',hm',hf'⟩;exact⟨he,sv',ov,_,k,i,hm',hf.trans hf',hk.psh x hn,by show S0.sp≤S.sp+1;omega,by
   rcases hp with hp|⟨hp,hi,hq⟩
   ·exact .inl hp
   ·exact .inr ⟨hp,hi,by show 4096 < S.sp+1+m;omega⟩⟩
 ·refine(vS x hm (by omega) hx (by omega)).mono ?_
  rintro e w' ⟨he,hm',hf'⟩;exact⟨he,sv,ov,S,5,0,hm',hf.trans hf',hk,hn,.inl ⟨rfl,rfl⟩⟩
theorem jJ(h:Mq E sv ov S d k i w)(hs:0 < S.sp):
  Calls Tryz.prog 118 #[.pointer (some ⟨E.b,0,none⟩)] w fun e w'=>e= .returned (.int .u16 (S.stk (S.sp-1)))∧∃ sv',Mq E sv' ov {S with sp:=S.sp-1} d k i w'∧Frq E sv ov w sv' ov w':=by
 obtain⟨g,c,hv,hc,hcm⟩:=h.st.pos hs;subst hv;have c24:=h.at 24 (.slice (some ⟨g,0,none⟩) S.sp c) rfl;have hf:=h.frz;have hm:S.sp≤maxLen:=by omega
 unfold maxLen at hm hcm;have cS:=h.st.cell (S.sp-1) (by omega);have HX:=Nc (And.intro (h.cut (S.sp-1) (.inl (by omega)) (by have:=h.ok.sp;omega)) (((Frq.refl E (.slice (some ⟨g,0,none⟩) S.sp c) ov w).cut (n:=S.sp-1)).set 24 (.slice (some ⟨g,0,none⟩) (S.sp-1) c)));obtain⟨n,hn⟩:∃ n,S.sp-1=n:=⟨_,rfl⟩;have hn2:S.sp=n+1:=by omega
 rw[hn] at cS HX⊢;clear h hs hn;go_enter Tryz.func118,Tryz.ntmps118
 go_wp2_with fail
 go_region
 go_wp2_with fail
 go_region
 go_wp2_with fail
 go_ret
 exact⟨rfl,_,HX.out.1.drew.drew,HX.out.2.drew.drew⟩
theorem yH(h:Mq E sv ov S d k i w)(hs:S.sp=0)(hk:(k=5∧i=0)∨(k=0∧i=0)):
  Calls Tryz.prog 118 #[.pointer (some ⟨E.b,0,none⟩)] w fun e w'=>e= .returned (.int .u16 0)∧Mq E sv ov S d 5 0 w'∧Frq E sv ov w sv ov w':=by
 obtain⟨p,c,hv,_,_,_,_⟩:=h.st.form;subst hv;have c24:w.cell? ⟨E.b,24,none⟩=some (.slice p 0 c):=by rw[← hs];exact h.at 24 (.slice p S.sp c) rfl
 have HF:=Nc (yI h hk);clear h hs hk;go_enter Tryz.func118,Tryz.ntmps118
 go_wp2_with fail
 refine HF.out.mono ?_;rintro e w' ⟨rfl,hm,hf⟩;have HX:=Nc (And.intro hm hf);clear hm hf;go_wp2_with fail
 go_ret
 exact⟨rfl,HX.out.1,HX.out.2⟩
def H7(e:Ending):Prop:=∃ n,U16 n∧e= .returned (.int .u16 n)
theorem jI(m:Nat){sv0 ov0:Value}{w0:World}(h:Jt E S0 sv0 ov0 w0 (jB (m+1)) w):
  Calls Tryz.prog 118 #[.pointer (some ⟨E.b,0,none⟩)] w fun e w'=>H7 e∧Jt E S0 sv0 ov0 w0 (jB m) w':=by
 obtain⟨sv,ov,S,k,i,hm,hf,hk,hp⟩:=h;by_cases hs:S.sp=0
 ·refine(yH hm hs (by rcases hp with hp | hp;exact .inl hp;exact .inr ⟨hp.1,hp.2.1⟩)).mono ?_
  rintro e w' ⟨he,hm',hf'⟩;exact⟨⟨0,⟨by decide,by decide⟩,he⟩,sv,ov,S,5,0,hm',hf.trans hf',hk,.inl ⟨rfl,rfl⟩⟩
 ·refine(jJ hm (by omega)).mono ?_
  rintro e w' ⟨he,sv',hm',hf'⟩;exact⟨⟨_,hm.ok.stk _ (by have:=hm.ok.sp;omega),he⟩,sv',ov,_,k,i,hm',hf.trans hf',⟨hk.ram,hk.out,hk.stk⟩,by
   rcases hp with hp|⟨hp,hi,hq⟩
   ·exact .inl hp
   ·exact .inr ⟨hp,hi,by show S.sp-1 < m;omega⟩⟩
theorem nK(a:Int)(h:bQ a=true):
  Calls Tryz.prog 158 #[.pointer (some ⟨E.b,0,none⟩),.int .u16 a] w fun e w'=>e= .returned (.bool true)∧w=w':=by
 have h0:16384≤a:=by unfold bQ at h;simp at h;omega
 have h1:a < 24576:=by unfold bQ at h;simp at h;omega
 clear h;go_enter Tryz.func158,Tryz.ntmps158
 go_wp2_with fail
 go_ret
 exact⟨rfl,rfl⟩
theorem nM(a:Int)(h:Mq E sv ov S d 0 0 w)(hr:bQ a=false):
  Calls Tryz.prog 158 #[.pointer (some ⟨E.b,0,none⟩),.int .u16 a] w fun e w'=>e= .returned (.bool false)∧Mq E sv ov S d 2 a w'∧Frq E sv ov w sv ov w':=by
 have HF:=Nc (dG 2 a h);clear h;by_cases h0:16384≤a
 ·have h1:¬ a < 24576:=by unfold bQ at hr;simp at hr;omega
  clear hr;go_enter Tryz.func158,Tryz.ntmps158
  go_wp2_with fail
  refine HF.out.mono ?_;rintro e w' ⟨rfl,hm,hf⟩;have HX:=Nc (And.intro hm hf);clear hm hf;go_wp2_with fail
  go_ret
  exact⟨rfl,HX.out.1,HX.out.2⟩
 ·clear hr
  go_enter Tryz.func158,Tryz.ntmps158
  go_wp2_with fail
  refine HF.out.mono ?_;rintro e w' ⟨rfl,hm,hf⟩;have HX:=Nc (And.intro hm hf);clear hm hf;go_wp2_with fail
  go_ret
  exact⟨rfl,HX.out.1,HX.out.2⟩
theorem lZ(n:Int)(h:Mq E sv ov S d k i w)(h0:0≤n)(h1:n < (S.sp:Int)):
  Calls Tryz.prog 119 #[.pointer (some ⟨E.b,0,none⟩),.int .i64 n] w fun e w'=>e= .returned (.int .i64 n)∧w=w':=by
 obtain⟨p,c,hv,_,_,_,_⟩:=h.st.form;subst hv;have c24:=h.at 24 (.slice p S.sp c) rfl;clear h;go_enter Tryz.func119,Tryz.ntmps119
 go_wp2_with fail
 go_ret
 exact⟨rfl,rfl⟩
theorem l7(n:Int)(h:Mq E sv ov S d 0 0 w)(h0:¬ (0≤n∧n < (S.sp:Int))):
  Calls Tryz.prog 119 #[.pointer (some ⟨E.b,0,none⟩),.int .i64 n] w fun e w'=>e= .returned (.int .i64 (-1))∧Mq E sv ov S d 5 0 w'∧Frq E sv ov w sv ov w':=by
 have HF:=Nc (dG 5 0 h);obtain⟨p,c,hv,_,_,_,_⟩:=h.st.form;subst hv;have c24:=h.at 24 (.slice p S.sp c) rfl;clear h;by_cases h1:0≤n
 ·have h2:¬ n < (S.sp:Int):=by omega
  clear h0;go_enter Tryz.func119,Tryz.ntmps119
  go_wp2_with fail
  refine HF.out.mono ?_;rintro e w' ⟨rfl,hm,hf⟩;have HX:=Nc (And.intro hm hf);clear hm hf;go_wp2_with fail
  go_ret
  exact⟨rfl,HX.out.1,HX.out.2⟩
 ·clear h0
  go_enter Tryz.func119,Tryz.ntmps119
  go_wp2_with fail
  refine HF.out.mono ?_;rintro e w' ⟨rfl,hm,hf⟩;have HX:=Nc (And.intro hm hf);clear hm hf;go_wp2_with fail
  go_ret
  exact⟨rfl,HX.out.1,HX.out.2⟩
end

section
variable {E:Qe} {sv ov:Value} {S S0:Ms} {d:Nat} {k i:Int} {w:World}
theorem Mq.has(h:Mq E sv ov S d k i w):Has w E.P E.I:=h.env.has.below h.bel
def rbk(S:Ms)(a:Int):Int:=if 4096≤a then S.aF else 0
theorem Jo(I:Im){a:Int}(h:8192≤a):cbB I S a=false:=by
 unfold cbB gU part;rw[if_neg (by omega),if_neg (by omega)];rfl
theorem Jn(I:Im){a:Int}(h0:0≤a)(h:rbk S a < 0∨(I.banks.length:Int)≤rbk S a∨64≤rbk S a∨(0≤rbk S a∧((bk I.banks (rbk S a).toNat).size:Int)≤a%4096)):cbB I S a=false:=by
 have e:plB S a=rbk S a:=by unfold plB rbk;split<;>split<;>first | omega | rfl
 unfold cbB gU;rw[e];have hp:(part (rbk S a) a != 0)=true→0≤rbk S a∧rbk S a < 64:=by
  unfold part
  split
  ·omega
  ·split
   ·omega
   ·simp
 cases hq:(part (rbk S a) a != 0)
 ·rfl
 ·have:=hp hq
  simp only[Bool.true_and,Bool.and_eq_false_iff,decide_eq_false_iff_not];omega
theorem Jm(I:Im){a:Int}(h0:0≤a)(h1:a < 8192)(h2:0≤rbk S a)(h3:rbk S a < (I.banks.length:Int))(h4:rbk S a < 64)(h5:a%4096 < ((bk I.banks (rbk S a).toNat).size:Int)):
  cbB I S a=true∧cbV I S a=ba (bk I.banks (rbk S a).toNat) (a%4096).toNat:=by
 have e:plB S a=rbk S a:=by unfold plB rbk;split<;>split<;>first | omega | rfl
 unfold cbB gU cbV;rw[e];refine⟨?_,rfl⟩;simp only[Bool.and_eq_true,decide_eq_true_eq];refine⟨⟨?_,h3⟩,h5⟩;unfold part;by_cases q:4096≤a
 ·have e2:rbk S a=S.aF:=if_pos q
  rw[e2] at h2 h4⊢;rw[if_neg (by omega),if_pos ⟨h2,h4,q,h1⟩];rfl
 ·have e2:rbk S a=0:=if_neg q
  rw[e2,if_pos ⟨rfl,by omega⟩];rfl
def CaE(b:Bool)(v:Int)(e:Ending):Prop:=e= .returned (.tuple #[.int .u8 (if b=true then v else 0),.bool b])
theorem CaE.n{b:Bool}{v:Int}{e:Ending}(hb:b=false)(he:e= .returned (.tuple #[.int .u8 0,.bool false])):CaE b v e:=by subst hb;exact he
theorem CaE.y{b:Bool}{v v':Int}{e:Ending}(hb:b=true)(hv:v=v')(he:e= .returned (.tuple #[.int .u8 v',.bool true])):CaE b v e:=by subst hb hv;exact he
set_option maxHeartbeats 4000000 in
theorem nN(a:Int)(h:Mq E sv ov S d k i w)(ha:U16 a):
  Calls Tryz.prog 115 #[.pointer (some ⟨E.b,0,none⟩),.int .u16 a] w fun e w'=>CaE (cbB E.I S a) (cbV E.I S a) e∧w=w':=by
 obtain⟨a0,a1⟩:=ha;by_cases hA:8192≤a
 ·have c19:=h.at 19 (.int .i64 S.aF) rfl
  have hA':¬ a < 4096:=by omega
  have H:=Nc (Jo (S:=S) E.I hA);have hm:=bu a 4096 a0;clear h;go_enter Tryz.func115,Tryz.ntmps115
  go_wp2_with fail
  go_ret2
  exact⟨CaE.n H.out rfl,rfl⟩
 have c19:=h.at 19 (.int .i64 S.aF) rfl;have c0:=h.at 0 (.slice E.P.p0 E.I.banks.length E.P.c0) rfl;have hB:=h.ok.aF;have HHas:=Nc h.has;have HOk:=Nc h.env.I;have HN:=Nc (Jn (S:=S) E.I a0);have HY:=Nc (Jm (S:=S) E.I a0 (by omega));have hm:=bu a 4096 a0;have hL:=h.env.I.n0;have hL':(E.I.banks.length:Int)≤1000000000:=by omega
 clear h hL;obtain⟨L,hLe⟩:∃ L,E.I.banks.length=L:=⟨_,rfl⟩;have HLe:=Nc hLe;rw[hLe] at c0 hL';obtain⟨p,hp⟩:∃ p,rbk S a=p:=⟨_,rfl⟩;have HP:Hid (p=if 4096≤a then S.aF else 0):=Nc hp.symm;rw[hp] at HN HY;clear hp hLe;have hp0:4096≤a∨(p=0∧¬ 4096≤a):=by
  have e:=HP.out;by_cases q:4096≤a
  ·exact .inl q
  ·rw[if_neg q] at e;exact .inr ⟨e,q⟩
 have fin:∀ r:Value→Prop,True:=fun _=>trivial
 rcases hp0 with q|⟨rfl,q⟩
 ·have e:=HP.out
  rw[if_pos q] at e;rw[← e] at c19 hB;clear e HP fin;by_cases b0:p < 0
  ·have H:=Nc (HN.out (.inl b0))
   go_enter Tryz.func115,Tryz.ntmps115
   go_wp2_with fail
   go_ret2
   exact⟨CaE.n H.out rfl,rfl⟩
  obtain⟨n,rfl⟩:∃ n:Nat,p=n:=⟨p.toNat,by omega⟩;by_cases b1:64≤(n:Int)∨(L:Int)≤n
  ·have H:=Nc (HN.out (by rw[HLe.out];omega))
   by_cases hl:64 < (L:Int);all_goals
    go_enter Tryz.func115,Tryz.ntmps115
    go_wp2_with fail
    go_ret2
    exact⟨CaE.n H.out rfl,rfl⟩
  have b2:n < E.I.banks.length:=by rw[HLe.out];omega
  obtain⟨g,hg,hc⟩:=HHas.out.s0.aF (jQ b2);have hsm:=HOk.out.bs _ (ji b2);rw[show((n:Int)).toNat=n by omega] at HN HY;obtain⟨s,hs⟩:∃ s,bk E.I.banks n=s:=⟨_,rfl⟩;rw[hs] at hc hsm HN HY;rw[hg] at c0;obtain⟨m,hm2⟩:∃ m:Nat,a%4096=m:=⟨(a%4096).toNat,by omega⟩;rw[hm2] at hm HN HY;rw[show((m:Int)).toNat=m by omega] at HY;unfold maxLen at hsm;have b3:(n:Int) < 64:=by omega
  have b4:(n:Int) < (L:Int):=by omega
  have HB2:=Nc b2;clear b1 hs hg HHas HOk hm2 b0 b2;by_cases hz:m < s.size
  ·have H:=Nc (HY.out (by omega) (by have:=HB2.out;omega) b3 (by omega))
   have HA:=Nc (bG s m hz);have hz':(m:Int) < (s.size:Int):=by omega
   have hd:=ay s m;by_cases hl:64 < (L:Int);all_goals
    go_enter Tryz.func115,Tryz.ntmps115
    go_wp2_with fail
    go_ret2
    exact⟨CaE.y H.out.1 (H.out.2.trans HA.out.symm) rfl,rfl⟩
  ·have H:=Nc (HN.out (by omega))
   have hz':¬ (m:Int) < (s.size:Int):=by omega
   by_cases hl:64 < (L:Int);all_goals
    go_enter Tryz.func115,Tryz.ntmps115
    go_wp2_with fail
    go_ret2
    exact⟨CaE.n H.out rfl,rfl⟩
 ·clear HP fin c19 hB
  by_cases b1:(L:Int)≤0
  ·have H:=Nc (HN.out (by rw[HLe.out];omega))
   go_enter Tryz.func115,Tryz.ntmps115
   go_wp2_with fail
   go_ret2
   exact⟨CaE.n H.out rfl,rfl⟩
  have b2:0 < E.I.banks.length:=by rw[HLe.out];omega
  obtain⟨g,hg,hc⟩:=HHas.out.s0.aF (jQ b2);have hsm:=HOk.out.bs _ (ji b2);rw[show((0:Int)).toNat=0 by omega] at HN HY;obtain⟨s,hs⟩:∃ s,bk E.I.banks 0=s:=⟨_,rfl⟩;rw[hs] at hc hsm HN HY;rw[hg] at c0;obtain⟨m,hm2⟩:∃ m:Nat,a%4096=m:=⟨(a%4096).toNat,by omega⟩;rw[hm2] at hm HN HY;rw[show((m:Int)).toNat=m by omega] at HY;unfold maxLen at hsm;have b4:0 < (L:Int):=by omega
  have HB2:=Nc b2;clear b1 hs hg HHas HOk hm2 b2;by_cases hz:m < s.size
  ·have H:=Nc (HY.out (by omega) (by have:=HB2.out;omega) (by omega) (by omega))
   have HA:=Nc (bG s m hz);have hz':(m:Int) < (s.size:Int):=by omega
   have hd:=ay s m;by_cases hl:64 < (L:Int);all_goals
    go_enter Tryz.func115,Tryz.ntmps115
    go_wp2_with fail
    go_ret2
    exact⟨CaE.y H.out.1 (H.out.2.trans HA.out.symm) rfl,rfl⟩
  ·have H:=Nc (HN.out (by omega))
   have hz':¬ (m:Int) < (s.size:Int):=by omega
   by_cases hl:64 < (L:Int);all_goals
    go_enter Tryz.func115,Tryz.ntmps115
    go_wp2_with fail
    go_ret2
    exact⟨CaE.n H.out rfl,rfl⟩
def RvE(E:Qe)(sv ov:Value)(S:Ms)(d:Nat)(w:World)(v:Vl)(e:Ending)(w':World):Prop:=match v with
 | .ok x=>e= .returned (.int .u16 x)∧w=w'
 | .tr k i=>e= .returned (.int .u16 0)∧Mq E sv ov S d k i w'∧Frq E sv ov w sv ov w'
theorem jZ{a:Int}(h:bQ a=true):∃ k:Nat,a=16384+k∧k < 8192:=⟨(a-16384).toNat,by unfold bQ at h;simp at h;omega,by unfold bQ at h;simp at h;omega⟩
theorem yD(S:Ms)(k:Nat):eY S (16384+k)=S.ram k:=by unfold eY;congr 1;omega
theorem yG(a:Int)(h:Mq E sv ov S d 0 0 w)(ha:U16 a):
  Calls Tryz.prog 120 #[.pointer (some ⟨E.b,0,none⟩),.int .u16 a,.int .i64 1] w (RvE E sv ov S d w (byP bQ (eY S) a)):=by
 obtain⟨a0,a1⟩:=ha;have hw0:IntKind.u16.wrap a=a:=by rw[IntKind.wrap_u16];omega
 cases hr:bQ a
 ·have HF:=Nc (nM a h hr)
  have e:byP bQ (eY S) a= .tr 2 a:=by unfold byP;rw[hr];rfl
  rw[e];clear h hr e;go_enter Tryz.func120,Tryz.ntmps120
  go_wp2_with fail
  refine wp_loop_rounds 1 ?_;rw[rounds_succ];go_wp2_with fail
  refine HF.out.mono ?_;rintro e w' ⟨rfl,hm,hf⟩;have HX:=Nc (And.intro hm hf);clear hm hf;go_wp2_with fail
  go_ret
  exact⟨rfl,HX.out.1,HX.out.2⟩
 ·have HI:=Nc (fun W=>nK (E:=E) (w:=W) a hr)
  have e:byP bQ (eY S) a= .ok (eY S a):=by unfold byP;rw[hr];rfl
  rw[e];obtain⟨k,rfl,hk⟩:=jZ hr;have hv:=Nc (yD S k);have c23:=h.at 23 (.slice (some ⟨E.rb,0,none⟩) 8192 8192) rfl;have ck:=h.mY k hk;obtain⟨x0,x1⟩:=h.ok.ram k hk;obtain⟨x,hx⟩:∃ x,S.ram k=x:=⟨_,rfl⟩;rw[hx] at hv ck x0 x1;have hsz:(k:Int) < 8192:=by omega
  clear h hr e hk hx;go_enter Tryz.func120,Tryz.ntmps120
  go_wp2_with fail
  refine wp_loop_rounds 2 ?_;rw[rounds_succ];go_wp2_with fail
  refine(HI.out _).mono ?_;rintro e w' ⟨rfl,rfl⟩;go_wp2_with fail
  rw[rounds_succ];go_wp2_with fail
  go_ret
  exact⟨by rw[hv.out];rfl,rfl⟩
end

section
variable {E:Qe} {sv ov:Value} {S S0:Ms} {d:Nat} {k i:Int} {w:World}
theorem CY{a:Int}(h0:0≤a)(h1:a < 65535):nx a=a+1:=by unfold nx;omega
theorem lY{a:Int}(h:bQ a=true):16384≤a∧a < 24576:=by unfold bQ at h;simp at h;omega
theorem wd0{ok:Int→Bool}{val:Int→Int}{a:Int}(h:ok a=false):wdP ok val a= .tr 2 a:=by unfold wdP;rw[h];rfl
theorem wd1{ok:Int→Bool}{val:Int→Int}{a:Int}(h:ok a=true)(g:ok (nx a)=false):wdP ok val a= .tr 2 (nx a):=by unfold wdP;rw[h,g];rfl
theorem wd2{ok:Int→Bool}{val:Int→Int}{a:Int}(h:ok a=true)(g:ok (nx a)=true):wdP ok val a= .ok (val a+256*val (nx a)):=by unfold wdP;rw[h,g];rfl
theorem yF(a:Int)(h:Mq E sv ov S d 0 0 w)(ha:U16 a):
  Calls Tryz.prog 120 #[.pointer (some ⟨E.b,0,none⟩),.int .u16 a,.int .i64 2] w (RvE E sv ov S d w (wdP bQ (eY S) a)):=by
 obtain⟨a0,a1⟩:=ha;have hw0:IntKind.u16.wrap a=a:=by rw[IntKind.wrap_u16];omega
 cases hr:bQ a
 ·have HF:=Nc (nM a h hr)
  rw[wd0 hr];clear h hr;go_enter Tryz.func120,Tryz.ntmps120
  go_wp2_with fail
  refine wp_loop_rounds 1 ?_;rw[rounds_succ];go_wp2_with fail
  refine HF.out.mono ?_;rintro e w' ⟨rfl,hm,hf⟩;have HX:=Nc (And.intro hm hf);clear hm hf;go_wp2_with fail
  go_ret
  exact⟨rfl,HX.out.1,HX.out.2⟩
 have HI:=Nc (fun W=>nK (E:=E) (w:=W) a hr);have hl:=lY hr;have hn:=CY a0 (by omega);have c23:=h.at 23 (.slice (some ⟨E.rb,0,none⟩) 8192 8192) rfl;cases hr2:bQ (nx a)
 ·rw[wd1 hr hr2]
  have HF:=Nc (nM (nx a) h hr2);rw[hn] at HF⊢;obtain⟨k,rfl,hk⟩:=jZ hr;have ck:=h.mY k hk;obtain⟨x0,x1⟩:=h.ok.ram k hk;obtain⟨x,hx⟩:∃ x,S.ram k=x:=⟨_,rfl⟩;rw[hx] at ck x0 x1;have hsz:(k:Int) < 8192:=by omega
  clear h hr hr2 hk hx hn hl;go_enter Tryz.func120,Tryz.ntmps120
  go_wp2_with fail
  refine wp_loop_rounds 2 ?_;rw[rounds_succ];go_wp2_with fail
  refine(HI.out _).mono ?_;rintro e w' ⟨rfl,rfl⟩;go_wp2_with fail
  rw[rounds_succ];go_wp2_with fail
  refine HF.out.mono ?_;rintro e w' ⟨rfl,hm,hf⟩;have HX:=Nc (And.intro hm hf);clear hm hf;go_wp2_with fail
  go_ret
  exact⟨rfl,HX.out.1,HX.out.2⟩
 ·rw[wd2 hr hr2]
  have HI2:=Nc (fun W=>nK (E:=E) (w:=W) (nx a) hr2);have hl2:=lY hr2;rw[hn] at HI2 hl2⊢;obtain⟨k,rfl,hk⟩:=jZ hr;have hv:=Nc (yD S k);have hv2:=Nc (show eY S (16384+k+1)=S.ram (k+1) by unfold eY;congr 1;omega);have ck:=h.mY k hk;have hk2:k+1 < 8192:=by omega
  have ck2:=h.mY (k+1) hk2;obtain⟨x0,x1⟩:=h.ok.ram k hk;obtain⟨y0,y1⟩:=h.ok.ram (k+1) hk2;obtain⟨x,hx⟩:∃ x,S.ram k=x:=⟨_,rfl⟩;obtain⟨y,hy⟩:∃ y,S.ram (k+1)=y:=⟨_,rfl⟩;rw[hx] at hv ck x0 x1;rw[hy] at hv2 ck2 y0 y1;have hsz:(k:Int)+1 < 8192:=by omega
  clear h hr hr2 hk hx hn hl hl2 hy hk2;have q1:(16384:Int)+k+1-16384=k+1:=by omega
  have q2:16384+k+1-16384=k+1:=by omega
  go_enter Tryz.func120,Tryz.ntmps120
  go_wp2_with fail
  refine wp_loop_rounds 3 ?_;rw[rounds_succ];go_wp2_with fail
  refine(HI.out _).mono ?_;rintro e w' ⟨rfl,rfl⟩;go_wp2_with fail
  rw[rounds_succ];go_wp2_with fail
  refine(HI2.out _).mono ?_;rintro e w' ⟨rfl,rfl⟩;go_wp2_with fail
  rw[rounds_succ];go_wp2_with fail
  go_ret
  exact⟨by rw[hv.out,hv2.out,show x+256*y=x+y*256 by omega];rfl,rfl⟩
def WvE(E:Qe)(sv ov:Value)(S:Ms)(d:Nat)(w:World)(v:Rs)(e:Ending)(w':World):Prop:=match v with
 | .ok S'=>e= .returned (.tuple #[])∧Mq E sv ov S' d 0 0 w'∧Frq E sv ov w sv ov w'
 | .tr k i=>e= .returned (.tuple #[])∧Mq E sv ov S d k i w'∧Frq E sv ov w sv ov w'
theorem Frq.ram{w0:World}(h:Frq E sv ov w0 sv ov w)(j:Nat)(v:Value):Frq E sv ov w0 sv ov (w.setCell ⟨E.rb,j,none⟩ v):=h.trans (Frq.grown (grown_setCell w E.rb j v) (.inr (.inl rfl)))
theorem Mq.IC(h:Mq E sv ov S d k i w)(j:Nat):w.frozen? ⟨E.rb,j,none⟩=false:=by
 obtain⟨A,h1,_⟩:=h.ram;exact frozen_of_row w E.rb j _ _ h1
theorem vO(a v:Int)(h:Mq E sv ov S d 0 0 w)(ha:U16 a)(hv:U16 v):
  Calls Tryz.prog 121 #[.pointer (some ⟨E.b,0,none⟩),.int .u16 a,.int .i64 1,.int .u16 v] w (WvE E sv ov S d w (stB S a (v%256))):=by
 obtain⟨a0,a1⟩:=ha;obtain⟨v0,v1⟩:=hv;have hw0:IntKind.u16.wrap a=a:=by rw[IntKind.wrap_u16];omega
 have hw1:IntKind.u8.wrap v=v%256:=IntKind.wrap_u8 v;cases hr:bQ a
 ·have HF:=Nc (nM a h hr)
  have e:stB S a (v%256)= .tr 2 a:=by unfold stB;rw[hr];rfl
  rw[e];clear h hr e;go_enter Tryz.func121,Tryz.ntmps121
  go_wp2_with fail
  refine wp_loop_rounds 1 ?_;rw[rounds_succ];go_wp2_with fail
  refine HF.out.mono ?_;rintro e w' ⟨rfl,hm,hf⟩;have HX:=Nc (And.intro hm hf);clear hm hf;go_wp2_with fail
  refine bodyPost_ret (results_none rfl _ _ _) rfl ?_;exact⟨rfl,HX.out.1,HX.out.2⟩
 ·have HI:=Nc (fun W=>nK (E:=E) (w:=W) a hr)
  have hl:=lY hr;obtain⟨k,rfl,hk⟩:=jZ hr;have e:stB S (16384+k) (v%256)= .ok {S with ram:=upd S.ram k (v%256)}:=by
   unfold stB;rw[hr,if_pos rfl,show((16384:Int)+k-16384).toNat=k by omega]
  rw[e];have c23:=h.at 23 (.slice (some ⟨E.rb,0,none⟩) 8192 8192) rfl;have ck:=h.mY k hk;have hf:=h.IC;have HX:=Nc (h.jX k hk (v%256) (by omega) (by omega));have HF:=Nc ((Frq.refl E sv ov w).ram k (.int .u8 (v%256)));have hsz:(k:Int) < 8192:=by omega
  clear h hr e hk hl;go_enter Tryz.func121,Tryz.ntmps121
  go_wp2_with fail
  refine wp_loop_rounds 2 ?_;rw[rounds_succ];go_wp2_with fail
  refine(HI.out _).mono ?_;rintro e w' ⟨rfl,rfl⟩;go_wp2_with fail
  rw[rounds_succ];go_wp2_with fail
  refine wp_loop_rounds 2 ?_;rw[rounds_succ];go_wp2_with fail
  go_region
  go_wp2_with fail
  rw[rounds_succ];go_wp2_with fail
  go_end0
  exact⟨rfl,HX.out.drew,HF.out.drew⟩
theorem qj(a v:Int)(h:Mq E sv ov S d 0 0 w)(ha:U16 a)(hv:U16 v):
  Calls Tryz.prog 121 #[.pointer (some ⟨E.b,0,none⟩),.int .u16 a,.int .i64 2,.int .u16 v] w (WvE E sv ov S d w (stW S a v)):=by
 obtain⟨a0,a1⟩:=ha;obtain⟨v0,v1⟩:=hv;have hw0:IntKind.u16.wrap a=a:=by rw[IntKind.wrap_u16];omega
 have hw1:IntKind.u8.wrap v=v%256:=IntKind.wrap_u8 v;have hw2:IntKind.u8.wrap (v/256)=v/256:=by rw[IntKind.wrap_u8];omega
 cases hr:bQ a
 ·have HF:=Nc (nM a h hr)
  have e:stW S a v= .tr 2 a:=by unfold stW;rw[hr];rfl
  rw[e];clear h hr e;go_enter Tryz.func121,Tryz.ntmps121
  go_wp2_with fail
  refine wp_loop_rounds 1 ?_;rw[rounds_succ];go_wp2_with fail
  refine HF.out.mono ?_;rintro e w' ⟨rfl,hm,hf⟩;have HX:=Nc (And.intro hm hf);clear hm hf;go_wp2_with fail
  refine bodyPost_ret (results_none rfl _ _ _) rfl ?_;exact⟨rfl,HX.out.1,HX.out.2⟩
 have HI:=Nc (fun W=>nK (E:=E) (w:=W) a hr);have hl:=lY hr;have hn:=CY a0 (by omega);cases hr2:bQ (nx a)
 ·have e:stW S a v= .tr 2 (nx a):=by unfold stW;rw[hr,hr2];rfl
  rw[e];have HF:=Nc (nM (nx a) h hr2);rw[hn] at HF⊢;clear h hr hr2 hn e;go_enter Tryz.func121,Tryz.ntmps121
  go_wp2_with fail
  refine wp_loop_rounds 2 ?_;rw[rounds_succ];go_wp2_with fail
  refine(HI.out _).mono ?_;rintro e w' ⟨rfl,rfl⟩;go_wp2_with fail
  rw[rounds_succ];go_wp2_with fail
  refine HF.out.mono ?_;rintro e w' ⟨rfl,hm,hf⟩;have HX:=Nc (And.intro hm hf);clear hm hf;go_wp2_with fail
  refine bodyPost_ret (results_none rfl _ _ _) rfl ?_;exact⟨rfl,HX.out.1,HX.out.2⟩
 ·have HI2:=Nc (fun W=>nK (E:=E) (w:=W) (nx a) hr2)
  have hl2:=lY hr2;have e:stW S a v= .ok {S with ram:=upd (upd S.ram (a-16384).toNat (v%256)) (nx a-16384).toNat (v/256)}:=by unfold stW;rw[hr,hr2];rfl
  rw[e];rw[hn] at HI2 hl2⊢;obtain⟨k,rfl,hk⟩:=jZ hr;have hk2:k+1 < 8192:=by omega
  rw[show((16384:Int)+k-16384).toNat=k by omega,show((16384:Int)+k+1-16384).toNat=k+1 by omega];have c23:=h.at 23 (.slice (some ⟨E.rb,0,none⟩) 8192 8192) rfl;have c23':=(h.jX k hk (v%256) (by omega) (by omega)).at 23 (.slice (some ⟨E.rb,0,none⟩) 8192 8192) rfl;have ck:=h.mY k hk;have ck2:=(h.jX k hk (v%256) (by omega) (by omega)).mY (k+1) hk2;have hf:=h.IC;have hf2:=(h.jX k hk (v%256) (by omega) (by omega)).IC;have HX:=Nc (((h.jX k hk (v%256) (by omega) (by omega)).drew).jX (k+1) hk2 (v/256) (by omega) (by omega));have HF:=Nc (((Frq.refl E sv ov w).ram k (.int .u8 (v%256))).drew.ram (k+1) (.int .u8 (v/256)));have hsz:(k:Int)+1 < 8192:=by omega
  clear h hr hr2 hk hn hl hl2 hk2 e;have q1:(16384:Int)+k+1-16384=k+1:=by omega
  have q2:16384+k+1-16384=k+1:=by omega
  go_enter Tryz.func121,Tryz.ntmps121
  go_wp2_with fail
  refine wp_loop_rounds 3 ?_;rw[rounds_succ];go_wp2_with fail
  refine(HI.out _).mono ?_;rintro e w' ⟨rfl,rfl⟩;go_wp2_with fail
  rw[rounds_succ];go_wp2_with fail
  refine(HI2.out _).mono ?_;rintro e w' ⟨rfl,rfl⟩;go_wp2_with fail
  rw[rounds_succ];go_wp2_with fail
  refine wp_loop_rounds 3 ?_;rw[rounds_succ];go_wp2_with fail
  go_region
  go_wp2_with fail
  rw[rounds_succ];go_wp2_with fail
  go_region
  go_wp2_with fail
  rw[rounds_succ];go_wp2_with fail
  go_end0
  exact⟨rfl,HX.out.drew,HF.out.drew⟩
theorem su(a:Int)(h:Mq E sv ov S d 0 0 w)(ha:U16 a):
  Calls Tryz.prog 123 #[.pointer (some ⟨E.b,0,none⟩),.int .u16 a] w (WvE E sv ov S d w ((wdP (cbB E.I S) (cbV E.I S) a).to fun v=>{S with pc:=v})):=by
 have HC:=Nc (nN a h ha);have hn:U16 (nx a):=dU _;have HC2:=Nc (nN (nx a) h hn);have hw0:IntKind.u16.wrap a=a:=by rw[IntKind.wrap_u16];have:=ha.1;have:=ha.2;omega
 have hw1:IntKind.u16.wrap (a+1)=nx a:=IntKind.wrap_u16 _;cases hr:cbB E.I S a
 ·have HF:=Nc (dG 2 a h)
  rw[wd0 hr];rw[hr] at HC;clear h hr;go_enter Tryz.func123,Tryz.ntmps123
  go_wp2_with fail
  refine wp_loop_rounds 1 ?_;rw[rounds_succ];go_wp2_with fail
  refine HC.out.mono ?_;rintro e w' ⟨he,rfl⟩;cases he;go_wp2_with fail
  refine HF.out.mono ?_;rintro e w' ⟨rfl,hm,hf⟩;have HX:=Nc (And.intro hm hf);clear hm hf;go_wp2_with fail
  refine bodyPost_ret (results_none rfl _ _ _) rfl ?_;exact⟨rfl,HX.out.1,HX.out.2⟩
 have hx:=Nc (show 0≤cbV E.I S a∧cbV E.I S a < 256 from ay _ _);obtain⟨x,hxe⟩:∃ x,cbV E.I S a=x:=⟨_,rfl⟩;obtain⟨x0,x1⟩:=hx.out;rw[hr,hxe] at HC;rw[hxe] at x0 x1;cases hr2:cbB E.I S (nx a)
 ·have HF:=Nc (dG 2 (nx a) h)
  rw[wd1 hr hr2];rw[hr2] at HC2;clear h hr hr2 hxe hx;go_enter Tryz.func123,Tryz.ntmps123
  go_wp2_with fail
  refine wp_loop_rounds 2 ?_;rw[rounds_succ];go_wp2_with fail
  refine HC.out.mono ?_;rintro e w' ⟨he,rfl⟩;cases he;go_wp2_with fail
  rw[rounds_succ];go_wp2_with fail
  refine HC2.out.mono ?_;rintro e w' ⟨he,rfl⟩;cases he;go_wp2_with fail
  refine HF.out.mono ?_;rintro e w' ⟨rfl,hm,hf⟩;have HX:=Nc (And.intro hm hf);clear hm hf;go_wp2_with fail
  refine bodyPost_ret (results_none rfl _ _ _) rfl ?_;exact⟨rfl,HX.out.1,HX.out.2⟩
 ·have hy:=Nc (show 0≤cbV E.I S (nx a)∧cbV E.I S (nx a) < 256 from ay _ _)
  obtain⟨y,hye⟩:∃ y,cbV E.I S (nx a)=y:=⟨_,rfl⟩;obtain⟨y0,y1⟩:=hy.out;rw[hr2,hye] at HC2;rw[hye] at y0 y1;rw[wd2 hr hr2,hxe,hye];have c15:=h.at 15 (.int .u16 S.pc) rfl;have hf:=h.frz;have HX:=Nc (h.dF (x+256*y) ⟨by omega,by omega⟩);have HF:=Nc ((Frq.refl E sv ov w).set 15 (.int .u16 (x+256*y)));rw[show x+256*y=x+y*256 by omega] at HX HF⊢;clear h hr hr2 hxe hye hx hy;go_enter Tryz.func123,Tryz.ntmps123
  go_wp2_with fail
  refine wp_loop_rounds 3 ?_;rw[rounds_succ];go_wp2_with fail
  refine HC.out.mono ?_;rintro e w' ⟨he,rfl⟩;cases he;go_wp2_with fail
  rw[rounds_succ];go_wp2_with fail
  refine HC2.out.mono ?_;rintro e w' ⟨he,rfl⟩;cases he;go_wp2_with fail
  rw[rounds_succ];go_wp2_with fail
  go_end0
  exact⟨rfl,HX.out,HF.out⟩
end
end Go.Proofs.YthkcloapiefggaaGreatDoor
