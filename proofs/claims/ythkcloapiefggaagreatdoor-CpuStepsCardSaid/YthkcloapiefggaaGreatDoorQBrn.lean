import Derived.Test.YthkcloapiefggaaGreatDoorQAcs
import Derived.Test.YthkcloapiefggaaGreatDoorQCal
import Derived.Deep.MidRow
namespace Go.Proofs.YthkcloapiefggaaGreatDoor
set_option linter.unusedVariables false
set_option linter.unusedSimpArgs false
set_option maxRecDepth 100000
set_option maxHeartbeats 1000000
open Go.ChangeShapes Go.WideShapes Go.RowKit
theorem yf(E:Env)(ov:Value)(S:Ms)(op:Int)(k:Nat)(s im ax bk sz:Int)(w:World)(h:Mc E ov S w)(hm:U16 im)(ho:96≤op∧op≤125):
  Calls Tryz.prog 113 #[.pointer (some ⟨E.b,0,none⟩),.agg #[.int .i64 op,.int .i64 (k:Int),.int .i64 s,.int .u16 im,.int .u16 ax,.int .i64 bk,.int .i64 sz]] w fun e w'=>Post E ov S w (.ok (if dZ (op%16) S.f=true then jmp S im else S)) e w':=by
 have hlt:=h.lt;have hne:E.b≠w.heap.size:=by omega
 obtain⟨n0,n1,n2,n3,n4,n5,n6⟩:=aG w op k s im ax bk sz;have H:=Nc (h.alloc (.cells #[.int .i64 op,.int .i64 (k:Int),.int .i64 s,.int .u16 im,.int .u16 ax,.int .i64 bk,.int .i64 sz] 58));have HG:=Nc (aJ (ah w (some E.b)) (.cells #[.int .i64 op,.int .i64 (k:Int),.int .i64 s,.int .u16 im,.int .u16 ax,.int .i64 bk,.int .i64 sz] 58));have c18:=H.out.c18;have c15:=H.out.c15;have hf:=H.out.frz;obtain⟨f0,f1⟩:=h.ok.f;obtain⟨m0,m1⟩:=hm;have hpc:=h.ok.pc;have htm:=bu op 16 (by omega);have HJ:=Nc (show jmp S im={S with pc:=(S.pc+im)%65536} from rfl);have HX0:=Nc (h.dF ((S.pc+im)%65536) (dU _));obtain⟨p,hp⟩:∃ p,S.pc=p:=⟨_,rfl⟩;rw[hp] at c15 hpc HJ HX0;have HX3:=Nc (show Mc E ov (jmp S im) ((w.setCell ⟨E.b,15,none⟩ (.int .u16 ((p+im)%65536))).alloc (.cells #[.int .i64 op,.int .i64 (k:Int),.int .i64 s,.int .u16 im,.int .u16 ax,.int .i64 bk,.int .i64 sz] 58)) from HJ.out▸HX0.out.alloc _);obtain⟨p0,p1⟩:=hpc;have hw:IntKind.u16.wrap (p+im)=(p+im)%65536:=IntKind.wrap_u16 _;have HC:=Nc (fun W=>Ea (op%16) S.f W f0 f1);obtain⟨v,hv⟩:∃ v,dZ (op%16) S.f=v:=⟨_,rfl⟩;rw[hv] at HC⊢;clear hv hp h;cases v
 ·rw[if_neg (by decide)]
  go_enter Tryz.func113,Tryz.ntmps113
  go_wp2_with fail
  refine(HC.out _).mono ?_;rintro e w1 ⟨rfl,rfl⟩;go_wp2_with fail
  go_end0
  exact Post.okk rfl rfl H.out HG.out
 ·rw[if_pos rfl]
  go_enter Tryz.func113,Tryz.ntmps113
  go_wp2_with fail
  refine(HC.out _).mono ?_;rintro e w1 ⟨rfl,rfl⟩;go_wp2_with fail
  go_region
  go_wp2_with fail
  go_end0
  exact Post.okk rfl rfl (by first | exact HX3.out.drew | exact HX3.out.drew.drew) (by first | exact aO (aJ (ag (ah _ _) _ _) _) | exact aO (aO (aJ (ag (ah _ _) _ _) _)))
theorem aY.pre{E:Env}{ov:Value}{S:Ms}{w W w':World}{R:Rs}{e:Ending}(h:aY E ov S W R e w')(hg:w.grownBy W (some E.b)):aY E ov S w R e w':=by
 cases R with
 | ok S'=>obtain⟨h0,ov',h1,h2⟩:=h;exact⟨h0,ov',h1,(Fro.gb ov hg).trans h2⟩
 | tr k i=>obtain⟨h0,S',h1,h2,h3⟩:=h;exact⟨h0,S',h1,h2,(Fro.gb ov hg).trans h3⟩
def stC(S:Ms):List Value:=[.int .u16 (S.r 0),.int .u16 (S.r 1),.int .u16 (S.r 2),.int .u16 (S.r 3),.int .u16 (S.r 4),.int .u16 (S.r 5),.int .u16 (S.r 6),.int .u16 (S.r 7),.int .u16 S.pc,.int .u16 (S.sp:Nat),.int .u16 S.fp,.int .u16 S.f,.int .i64 S.aF,.int .i64 S.steps,.int .i64 S.inp,.int .i64 S.pol]
theorem Be(w:World):(Instr.typeAssert .nilIface 20 47 true).run Tryz.prog w= .ok (.tuple #[.agg #[.int .i64 0,.int .u16 0],.bool false]) w:=by
 simp[Instr.typeAssert,run_underlying Tryz.underlying47,Tryz.zeroValue47,Sem.run_bind]
theorem Bf(v:Value)(w:World):(Instr.typeAssert (.iface 47 v) 20 47 true).run Tryz.prog w= .ok (.tuple #[v,.bool true]) w:=by
 simp[Instr.typeAssert,run_underlying Tryz.underlying47,Sem.run_bind]
theorem JO:Array.replicate 13 undef=#[undef,undef,undef,undef,undef,undef,undef,undef,undef,undef,undef,undef,undef]:=rfl
theorem JM:Array.replicate 16 undef=#[undef,undef,undef,undef,undef,undef,undef,undef,undef,undef,undef,undef,undef,undef,undef,undef]:=rfl
theorem catch_idle(p q r:Addr)(w:World):
  CallsD Tryz.prog 60 #[.pointer (some p),.pointer (some q),.pointer (some r)] .returning w fun e u' w'=>e= .returned (.tuple #[])∧u'= .returning∧Below w.heap.size w w':=by
 refine callsD_of_wpS Tryz.func60 rfl fun c₀ cs hu=>?_
 apply wpS_seq;apply wpS_region;simp[wpOpsS,go_sem,recoverD,hu,Tryz.ntmps60,Exit.thenS,Be,Bf,JM];refine wpS_of_wp ?_;go_wp2_with fail
 cases c₀;simp_all [bodyPostS,results,Tryz.results60];exact(Below.refl _ _).alloc (Nat.le_refl _) _
structure Eqv(S S':Ms):Prop where
 r:∀ k,k < 8→S'.r k=S.r k
 pc:S'.pc=S.pc
 sp:S'.sp=S.sp
 fp:S'.fp=S.fp
 f:S'.f=S.f
 aF:S'.aF=S.aF
 steps:S'.steps=S.steps
 inp:S'.inp=S.inp
 pol:S'.pol=S.pol
 ram:∀ j,j < 8192→S'.ram j=S.ram j
 stk:∀ j,j < S.sp→S'.stk j=S.stk j
 out:S'.out=S.out
theorem Eqv.refl(S:Ms):Eqv S S:=⟨fun _ _=>rfl,rfl,rfl,rfl,rfl,rfl,rfl,rfl,rfl,fun _ _=>rfl,fun _ _=>rfl,rfl⟩
def IM(S0 S1:Ms):Ms:={S1 with r:=upd (upd (upd (upd (upd (upd (upd (upd S1.r 0 (S0.r 0)) 1 (S0.r 1)) 2 (S0.r 2)) 3 (S0.r 3)) 4 (S0.r 4)) 5 (S0.r 5)) 6 (S0.r 6)) 7 (S0.r 7),pc:=S0.pc,sp:=S0.sp,fp:=S0.fp,f:=S0.f,aF:=S0.aF,steps:=S0.steps,inp:=S0.inp,pol:=S0.pol}
theorem CG{S0 S1:Ms}(h:Kp S0 S1):Eqv S0 (IM S0 S1):=by
 refine⟨fun k hk=>?_,rfl,rfl,rfl,rfl,rfl,rfl,rfl,rfl,fun j _=>by rw[← h.ram];rfl,fun j hj=>h.stk j hj,h.out⟩
 rcases(show k=0∨k=1∨k=2∨k=3∨k=4∨k=5∨k=6∨k=7 by omega) with rfl|rfl|rfl|rfl|rfl|rfl|rfl|rfl<;>rfl
def setB(b:Nat)(S0:Ms)(w:World):World:=((((((((((((((((w.setCell ⟨b,7,none⟩ (.int .u16 (S0.r 0))).setCell ⟨b,8,none⟩ (.int .u16 (S0.r 1))).setCell ⟨b,9,none⟩ (.int .u16 (S0.r 2))).setCell ⟨b,10,none⟩ (.int .u16 (S0.r 3))).setCell ⟨b,11,none⟩ (.int .u16 (S0.r 4))).setCell ⟨b,12,none⟩ (.int .u16 (S0.r 5))).setCell ⟨b,13,none⟩ (.int .u16 (S0.r 6))).setCell ⟨b,14,none⟩ (.int .u16 (S0.r 7))).setCell ⟨b,15,none⟩ (.int .u16 S0.pc)).setCell ⟨b,16,none⟩ (.int .u16 (S0.sp:Nat))).setCell ⟨b,17,none⟩ (.int .u16 S0.fp)).setCell ⟨b,18,none⟩ (.int .u16 S0.f)).setCell ⟨b,19,none⟩ (.int .i64 S0.aF)).setCell ⟨b,20,none⟩ (.int .i64 S0.steps)).setCell ⟨b,21,none⟩ (.int .i64 S0.inp)).setCell ⟨b,22,none⟩ (.int .i64 S0.pol))
theorem Mc.setB{E:Env}{ov:Value}{S0 S1:Ms}{w:World}(h:Mc E ov S1 w)(ok:S0.Ok):Mc E ov (IM S0 S1) (setB E.b S0 w):=
 ((((((((((((((((h.aZ 0 (by decide) _ (ok.r 0 (by decide))).aZ 1 (by decide) _ (ok.r 1 (by decide))).aZ 2 (by decide) _ (ok.r 2 (by decide))).aZ 3 (by decide) _ (ok.r 3 (by decide))).aZ 4 (by decide) _ (ok.r 4 (by decide))).aZ 5 (by decide) _ (ok.r 5 (by decide))).aZ 6 (by decide) _ (ok.r 6 (by decide))).aZ 7 (by decide) _ (ok.r 7 (by decide))).dF _ ok.pc).vz _ ok.sp).kW _ ok.fp).oL _ ok.f).fQ _ ok.aF).lT _ ok.steps).nJ _ ok.inp).nI _ ok.pol)
theorem Fe(b:Nat)(S0:Ms)(w:World):w.grownBy (setB b S0 w) (some b):=ag (ag (ag (ag (ag (ag (ag (ag (ag (ag (ag (ag (ag (ag (ag (ag (ah _ _) _ _) _ _) _ _) _ _) _ _) _ _) _ _) _ _) _ _) _ _) _ _) _ _) _ _) _ _) _ _) _ _
theorem iP:(Tryz.prog.info? 36).map (·.size)=some 16:=by kernel_rfl
theorem dV:(Tryz.prog.info? 47).map (·.size)=some 2:=by kernel_rfl
theorem qh{w:World}{g:Nat}{l:List Value}{t:TypeId}{f:Nat × Nat}(h:w.heap[g]? =some (.cells l.toArray t f)):w.rangeAt g 0 l:=fun j v hv=>by
 rw[Nat.zero_add];exact ae h j v (by simpa using hv)
theorem uU{w:World}{g n:Nat}{A:Array Value}{t:TypeId}(h:w.heap[g]? =some (.cells A t (0,0)))(o:Nat)(hn:o+n≤A.size):w.there g o n:=fun j hj=>by
 refine⟨?_,frozen_of_row w g _ _ _ h⟩;rw[ae h (o+j) A[o+j] (by simp[show o+j < A.size by omega])];rfl
theorem Mc.there{E:Env}{ov:Value}{S:Ms}{w:World}(h:Mc E ov S w)(o n:Nat)(hn:o+n≤12313):w.there E.b o n:=by
 obtain⟨A,a1,a2,_⟩:=h.blk;exact uU a1 o (by omega)
theorem pO(b:Nat)(S0:Ms)(w:World):w.setCells b 7 (stC S0)=setB b S0 w:=rfl
theorem CU(S:Ms):(stC S).toArray.all (·.oneCell')=true:=by simp[stC,Value.oneCell']
theorem Mc.other{E:Env}{ov:Value}{S:Ms}{w w':World}{g:Nat}(h:Mc E ov S w)(hg:w.grownBy w' (some g))(c0:E.hi≤g)(c1:g≠E.b)(c2:rowOf ov≠some g):Mc E ov S w':=by
 have hlo:=h.env.lo;have hb:=h.env.b;have h0:=h.env.mp0;have h1:=h.env.mp1;have hlt:=h.lt;refine⟨h.ok,h.env,h.bel.grown hg (by omega) (fun k hk=>by simp at hk;omega),fun k k0 k1=>(hg.block k (by omega) (by simp;omega)).trans (h.mid k k0 k1),?_,h.out.grown hg (.inr c2),h.own⟩;obtain⟨A,a1,a2,a3⟩:=h.blk;exact⟨A,(hg.block _ hlt (by simpa using Ne.symm c1)).trans a1,a2,a3⟩
theorem set2{w:World}{g:Nat}{z0 z1:Value}{T:TypeId}(h:w.heap[g]? =some (.cells #[z0,z1] T (0,0)))(v0 v1:Value):
  ((w.setCell ⟨g,0,none⟩ v0).setCell ⟨g,1,none⟩ v1).heap[g]? =some (.cells #[v0,v1] T (0,0)):=by
 have h1:=bP _ g 0 v0 _ _ _ h;simp only[List.setIfInBounds_toArray,List.set_cons_zero,List.set_cons_succ] at h1;have h2:=bP _ g 1 v1 _ _ _ h1;simp only[List.setIfInBounds_toArray,List.set_cons_zero,List.set_cons_succ] at h2;exact h2
set_option maxHeartbeats 4000000 in
theorem x9(E:Env)(ov:Value)(S0 S1:Ms)(nb nm nt:Nat)(x0 x1:Value)(o x:Int)(older:List PanicEntry)(w:World)(h:Mc E ov S1 w)(ok:S0.Ok)(hb:w.heap[nb]? =some (.cells (stC S0).toArray 36 (0,0)))(hm:w.heap[nm]? =some (.cells #[.pointer (some ⟨E.b,0,none⟩)] 87 (0,0)))(ht:w.heap[nt]? =some (.cells #[x0,x1] 47 (0,0)))
  (eb:nb≠E.b) (em:nm≠E.b) (et:nt≠E.b) (ht0:E.hi≤nt) (hrow:rowOf ov≠some nt) (tb:nt≠nb) (tm:nt≠nm):
  CallsD Tryz.prog 60 #[.pointer (some ⟨nb,0,none⟩),.pointer (some ⟨nm,0,none⟩),.pointer (some ⟨nt,0,none⟩)] (.panicking ({v:= .iface 47 (.agg #[.int .i64 o,.int .u16 x]),recovered:=false}::older)) w fun e u' w'=>
   e= .returned (.tuple #[])∧u'= .panicking ({v:= .iface 47 (.agg #[.int .i64 o,.int .u16 x]),recovered:=true}::older)∧Mc E ov (IM S0 S1) w'∧w'.heap[nt]? =some (.cells #[.int .i64 o,.int .u16 x] 47 (0,0))∧(∀ k,k < w.heap.size→k≠E.b→k≠nt→w'.heap[k]? =w.heap[k]?)∧w.heap.size≤w'.heap.size:=by
 refine callsD_of_wpS Tryz.func60 rfl fun c₀ cs hu=>?_
 apply wpS_seq;apply wpS_region;simp[wpOpsS,go_sem,recoverD,hu,Tryz.ntmps60,Exit.thenS,Be,Bf,JO];refine wpS_of_wp ?_;have HM:=Nc (h.alloc (.cells #[.int .i64 o,.int .u16 x] 47));have ltb:=lt_of_block hb;have ltm:=lt_of_block hm;have ltt:=lt_of_block ht;have ltE:=h.lt;have hb1:=aj w (.cells #[.int .i64 o,.int .u16 x] 47) _ hb;have hm1:=aj w (.cells #[.int .i64 o,.int .u16 x] 47) _ hm;have ht1:=aj w (.cells #[.int .i64 o,.int .u16 x] 47) _ ht;have hn1:=heap_alloc_new w (.cells #[.int .i64 o,.int .u16 x] 47);have hold:=fun (k:Nat) (hk:k < w.heap.size)=>heap_alloc_old w (.cells #[.int .i64 o,.int .u16 x] 47) hk
 have hsz:(w.alloc (.cells #[.int .i64 o,.int .u16 x] 47)).heap.size=w.heap.size+1:=by simp
 obtain⟨nr,hnr⟩:∃ nr,w.heap.size=nr:=⟨_,rfl⟩;obtain⟨W,hW⟩:∃ W,w.alloc (.cells #[.int .i64 o,.int .u16 x] 47)=W:=⟨_,rfl⟩;rw[hW] at HM hb1 hm1 ht1 hn1 hold hsz⊢;rw[hnr] at hn1 hsz ltb ltm ltt ltE hold⊢;have HOld:=Nc hold;have HSz:=Nc hsz;have HBl:=Nc (And.intro hb1 (And.intro hm1 (And.intro ht1 hn1)));have ner:nr≠E.b:=by omega
 have net:nt≠nr:=by omega
 have HNE:=Nc (And.intro ner net);have cm:=ae hm1 0 (.pointer (some ⟨E.b,0,none⟩)) rfl;have cr0:=ae hn1 0 (.int .i64 o) rfl;have cr1:=ae hn1 1 (.int .u16 x) rfl;have hS1:=Nc (show(fun w'=>w'.cell? ⟨nm,0,none⟩=some (.pointer (some ⟨E.b,0,none⟩))∧w'.rangeAt nb 0 (stC S0)∧w'.cell? ⟨nr,0,none⟩=some (.int .i64 o)∧w'.cell? ⟨nr,1,none⟩=some (.int .u16 x)) W.drew from⟨cm,qh hb1,cr0,cr1⟩);have T1:=Nc (HM.out.drew.there 7 16 (by decide));have M2:=Nc (pO E.b S0 W.drew▸(HM.out.drew).setB ok);have G2:=Nc (pO E.b S0 W.drew▸Fe E.b S0 W.drew);obtain⟨W2,hW2⟩:∃ W2,W.drew.setCells E.b 7 (stC S0)=W2:=⟨_,rfl⟩;have hW2':W.drew.setCells E.b 7 (stC S0).toArray.toList=W2:=hW2;rw[hW2] at M2 G2;have keep:∀ k,k < W.heap.size→k≠E.b→W2.heap[k]? =W.heap[k]? :=fun k hk hne=>G2.out.block k hk (by simpa using hne)
 have hb2:=(keep nb (by omega) eb).trans hb1;have hm2:=(keep nm (by omega) em).trans hm1;have ht2:=(keep nt (by omega) et).trans ht1;have hn2:=(keep nr (by omega) ner).trans hn1;have K2:=Nc (show(fun w'=>w'.cell? ⟨nm,0,none⟩=some (.pointer (some ⟨E.b,0,none⟩))∧w'.rangeAt nb 0 (stC S0)∧w'.cell? ⟨nr,0,none⟩=some (.int .i64 o)∧w'.cell? ⟨nr,1,none⟩=some (.int .u16 x)) W2 from⟨ae hm2 0 _ rfl,qh hb2,ae hn2 0 _ rfl,ae hn2 1 _ rfl⟩);have HW2:=Nc hW2';have T2:=Nc (uU (n:=2) ht2 0 (by simp));have s2:=set2 ht2 (.int .i64 o) (.int .u16 x);have G3:=ag (ag (ah W2 (some nt)) 0 (.int .i64 o)) 1 (.int .u16 x);have W3e:W2.setCells nt 0 (#[.int .i64 o,.int .u16 x]:Array Value).toList=(W2.setCell ⟨nt,0,none⟩ (.int .i64 o)).setCell ⟨nt,1,none⟩ (.int .u16 x):=rfl;obtain⟨W3,hW3⟩:∃ W3,(W2.setCell ⟨nt,0,none⟩ (.int .i64 o)).setCell ⟨nt,1,none⟩ (.int .u16 x)=W3:=⟨_,rfl⟩;rw[hW3] at W3e s2 G3;have M3:=Nc (M2.out.other G3 ht0 et hrow);have keep3:∀ k,k < W2.heap.size→k≠nt→W3.heap[k]? =W2.heap[k]? :=fun k hk hne=>G3.block k hk (by simpa using hne)
 have z2:W.heap.size≤W2.heap.size:=G2.out.size;have hb3:=(keep3 nb (by omega) (Ne.symm tb)).trans hb2;have hm3:=(keep3 nm (by omega) (Ne.symm tm)).trans hm2;have hn3:=(keep3 nr (by omega) (Ne.symm net)).trans hn2;have K3:=Nc (show(fun w'=>w'.cell? ⟨nm,0,none⟩=some (.pointer (some ⟨E.b,0,none⟩))∧w'.rangeAt nb 0 (stC S0)∧w'.cell? ⟨nr,0,none⟩=some (.int .i64 o)∧w'.cell? ⟨nr,1,none⟩=some (.int .u16 x)) W3 from⟨ae hm3 0 _ rfl,qh hb3,ae hn3 0 _ rfl,ae hn3 1 _ rfl⟩);have HW3:=Nc W3e;have HT3:=Nc s2;have HOl:=Nc (fun (k:Nat) (hk:k < nr) (h1:k≠E.b) (h2:k≠nt)=>(keep3 k (by omega) h2).trans ((keep k (by omega) h1).trans (HOld.out k hk)));have HS3:=Nc (show nr≤W3.heap.size from Nat.le_trans (by omega) (Nat.le_trans z2 G3.size));have HNr:=Nc hnr;clear h hb hm ht hb1 hm1 ht1 hn1 hold hsz hW cm cr0 cr1 hb2 hm2 ht2 hn2 hW2 hW2' hW3 W3e s2 G3 keep keep3 hb3 hm3 hn3 z2 hnr;go_upto_region 2 with fail
 refine wp_region_held_drew (S:=fun w'=>w'.cell? ⟨nm,0,none⟩=some (.pointer (some ⟨E.b,0,none⟩))∧w'.rangeAt nb 0 (stC S0)∧w'.cell? ⟨nr,0,none⟩=some (.int .i64 o)∧w'.cell? ⟨nr,1,none⟩=some (.int .u16 x)) (by kernel_rfl) (hS1.out) (fun hHeld=>?_);refine tq 0 rfl ?_;refine tk 1 _ rfl (yieldsIf_load_mid (by rfl) 36 _ rfl nb 0 rfl (stC S0) _ (fun w hw=>hw.2.1) Tryz.underlying36 rfl iP) ?_;refine tq 2 rfl ?_;refine tq 3 rfl ?_;refine tq 4 rfl ?_;refine rd1 5 rfl (fun K hK=>?_);refine Eq.mpr (if_pos (by rfl)) ?_;refine wp_store_mid 36 _ _ rfl E.b 7 (stC S0).toArray rfl rfl T1.out iP (CU S0) ?_;rw[HW2.out];refine hK.out _ _ (K2.out) (fun hHeld=>?_);clear hK K
 try simp only[lay]
 refine rd1 6 rfl (fun K hK=>?_);refine Eq.mpr (if_pos (by rfl)) ?_;refine wp_store_mid 47 _ _ rfl nt 0 #[.int .i64 o,.int .u16 x] rfl rfl T2.out dV (by simp[Value.oneCell']) ?_;rw[HW3.out];refine hK.out _ _ (K3.out) (fun hHeld=>?_);clear hK K
 try simp only[lay]
 refine wpAnyH_done (by kernel_rfl) ?_ _;go_wp2_with fail
 cases c₀;clear hHeld;have HY:=And.intro M3.out (And.intro HT3.out (And.intro HOl.out HS3.out));clear hS1 T1 K2 K3 HW2 HW3 M2 G2 M3 HT3 HOl HS3 HM HBl T2 HNE HSz HOld HNr;simp[bodyPostS,results,Tryz.results60]
 trace_state
 exact HY
end Go.Proofs.YthkcloapiefggaaGreatDoor
