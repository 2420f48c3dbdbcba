import Derived.Test.YthkcloapiefggaaGreatDoorQXly
import Derived.Test.YthkcloapiefggaaGreatDoorQXsm
namespace Go.Proofs.YthkcloapiefggaaGreatDoor
set_option linter.unusedVariables false
set_option linter.unusedSimpArgs false
set_option maxRecDepth 100000
set_option maxHeartbeats 1000000
open Go.ChangeShapes Go.WideShapes Go.RowKit
def Jz(e:Ending)(w':World):Prop:=∃ (P:Pl) (I:Im) (X:Sn) (p:Option Addr) (c:Nat) (T:Tp) (pi pq:Option Addr) (ci cq:Nat),e= .returned (.tuple #[imV P I,snV X p c none 0,.agg #[.slice pi T.inn.length ci,.slice pq T.irq.length cq]])∧I.Ok∧X.Ok∧Has w' P I∧SnH w' X p none∧X.stk.length≤9∧X.stk.length≤c∧X.out=[]∧X.ram.size=8192∧T.Ok∧Sl w' pi (inC T.inn)∧Sl w' pq (irC T.irq)
structure Tb(W V:World)(l:List (Nat × Array Value × TypeId)):Prop where
 bel:Below W.heap.size W V
 has:∀ x∈l,W.heap.size≤x.1∧V.heap[x.1]? =some (.cells x.2.1 x.2.2 (0,0))
theorem Tb.start(W:World):Tb W W.drew []:=⟨(Below.refl _ _).drew,fun x h=>by cases h⟩
theorem Tb.next{W V U:World}{l:List (Nat × Array Value × TypeId)}(h:Tb W V l)(hb:Below V.heap.size V U):Tb W U l:=
 ⟨h.bel.trans (hb.mono h.bel.size),fun x hx=>⟨(h.has x hx).1,af (h.has x hx).2 hb⟩⟩
theorem Tb.box{W V:World}{l:List (Nat × Array Value × TypeId)}(h:Tb W V l)(Z:Array Value)(t:TypeId):Tb W (V.alloc (.cells Z t)) ((V.heap.size,Z,t)::l):=by
 have g:=h.next ((Below.refl _ V).alloc (Nat.le_refl _) (.cells Z t));refine⟨g.bel,fun x hx=>?_⟩;rcases List.mem_cons.1 hx with rfl|hx
 ·exact⟨h.bel.size,heap_alloc_new V _⟩
 ·exact g.has x hx
theorem jh{V:World}{A B:Nat}{Z1 Z2:Array Value}{t1 t2:TypeId}{f1 f2:Nat × Nat}(h1:V.heap[A]? =some (.cells Z1 t1 f1))(h2:V.heap[B]? =some (.cells Z2 t2 f2))(ne:t1≠t2):A≠B:=fun e=>by
 rw[e,h2] at h1;injection h1 with h1;injection h1 with _ h1;exact ne h1.symm
theorem sQ{ops:Array Oper}{Q:Exit→Act→World→Prop}{S:World→Prop}{fuel:Nat}{listed:Array Bool}{a:Act}{V:World}{o1 o2:Oper}{x1 y1 x2 y2:Operand}(i1 i2:Nat){A B:Nat}{Z1 Z2 C1 C2:Array Value}{t1 t2:TypeId}
  (b1:V.heap[A]? =some (.cells Z1 t1 (0,0))) (b2:V.heap[B]? =some (.cells Z2 t2 (0,0))) (ne:t1≠t2) (z1:Z1.size=C1.size) (z2:Z2.size=C2.size) (u1:(C1.all fun x=>x.oneCell')=true) (u2:(C2.all fun x=>x.oneCell')=true)
  (k1:(Tryz.prog.info? t1).map (·.size)=some C1.size) (k2:(Tryz.prog.info? t2).map (·.size)=some C2.size)
  (hS1:S (V.setRow A C1)) (hS2:S ((V.setRow A C1).setRow B C2))
  (h1:ops[i1]? =some o1) (h2:ops[i2]? =some o2) (e1:o1.op= .store t1 x1 y1) (e2:o2.op= .store t2 x2 y2) (d1:o1.dst=none) (d2:o2.dst=none) (w1:Region.wanted o1 (yielded ops a.tmps)=true) (w2:Region.wanted o2 (yielded ops a.tmps)=true)
  (g1:a.eval x1= .pointer (some ⟨A,0,none⟩)) (v1:a.eval y1= .agg C1) (g2:a.eval x2= .pointer (some ⟨B,0,none⟩)) (v2:a.eval y2= .agg C2)
  (r1:Region.ready .any ops listed=[i1]) (r2:Region.ready .any ops (listed.setIfInBounds i1 true)=[i2]) (r3:Region.ready .any ops ((listed.setIfInBounds i1 true).setIfInBounds i2 true)=[])
  (hQ:Q .normal a ((V.setRow A C1).setRow B C2)):wpAnyH Tryz.prog .any ops Q S (fuel+2) listed a V:=by
 have hne:=jh b1 b2 ne;refine wpAnyH_ready r1 (by simp) (AllReadyH.cons h1 (fun K hK=>?_) AllReadyH.nil);rw[if_pos w1];refine wp_store_row t1 x1 y1 e1 A C1 g1 v1 t1 _ b1 k1 z1 u1 ?_;refine hK.out _ _ hS1 (fun _=>?_);have p1:∀ v,a.put o1.dst v=a:=fun v=>by rw[d1];rfl
 refine wpAnyH_ready r2 (by simp) (AllReadyH.cons h2 (fun K hK=>?_) AllReadyH.nil);rw[p1,if_pos w2];refine wp_store_row t2 x2 y2 e2 B C2 g2 v2 t2 _ ((setRow_other V A B C1 (Ne.symm hne)).trans b2) k2 z2 u2 ?_;have p2:∀ v,a.put o2.dst v=a:=fun v=>by rw[d2];rfl
 refine hK.out _ _ hS2 (fun _=>?_);rw[p2];exact wpAnyH_done r3 hQ _
structure LsF(W:World)(A B s:Nat)(a b d:ByteArray)(ve:Int)(X:Sn)(p:Option Addr)(c:Nat)(V:World):Prop where
 bel:Below W.heap.size W V
 ga:W.heap.size≤A
 gb:W.heap.size≤B
 ba:V.heap[A]? =some (.cells (im3 s ve) 33 (0,0))
 bb:V.heap[B]? =some (.cells (snA X p c none 0) 40 (0,0))
 bks:V.heap[s]? =some (.cells #[.string a,.string b,.string d] 9 (0,0))
 sn:SnH V X p none
theorem LsF.next{W:World}{A B s:Nat}{a b d:ByteArray}{ve:Int}{X:Sn}{p:Option Addr}{c:Nat}{V U:World}(h:LsF W A B s a b d ve X p c V)(hb:Below V.heap.size V U):LsF W A B s a b d ve X p c U:=
 ⟨h.bel.trans (hb.mono h.bel.size),h.ga,h.gb,af h.ba hb,af h.bb hb,af h.bks hb,h.sn.below hb⟩
theorem Sl.jf{V:World}{p:Option Addr}{cs:List Value}(h:Sl V p cs){t e:TypeId}{B:Nat}{A C:Array Value}{f f':Nat × Nat}(hB:V.heap[B]? =some (.cells A t f))(hp:∀ g,p=some ⟨g,0,none⟩→∃ D,V.heap[g]? =some (.cells D e f'))(ne:e≠t):Sl (V.setRow B C) p cs:=fun j x hx=>by
 obtain⟨g,hg,hc⟩:=h j x hx;obtain⟨D,hD⟩:=hp g hg;exact⟨g,hg,(cell_setRow_other V B C ⟨g,j,none⟩ (jh hD hB ne)).trans hc⟩
theorem LsF.new{W V:World}{l:List (Nat × Array Value × TypeId)}(h:Tb W V l){A B s:Nat}{a b d:ByteArray}{ve:Int}{X:Sn}{p:Option Addr}{c:Nat}{Z1 Z2:Array Value}(hA:(A,Z1,(33:TypeId))∈l)(hB:(B,Z2,(40:TypeId))∈l)(hk:V.heap[s]? =some (.cells #[.string a,.string b,.string d] 9 (0,0)))(hs:SnH V X p none):
  LsF W A B s a b d ve X p c ((V.setRow A (im3 s ve)).setRow B (snA X p c none 0)):=by
 obtain⟨g1,e1⟩:=h.has _ hA;obtain⟨g2,e2⟩:=h.has _ hB;dsimp only at g1 e1 g2 e2;have ne:=jh e1 e2 (by decide);have f1:=setRow_heap V A _ (im3 s ve) _ _ e1;have f2:=(setRow_other V A B (im3 s ve) (Ne.symm ne)).trans e2;exact⟨below_setRow (below_setRow h.bel g1 _) g2 _,g1,g2,(setRow_other _ _ _ _ ne).trans f1,setRow_heap _ _ _ _ _ _ f2,(setRow_other _ _ _ _ (jh ((setRow_other V A s (im3 s ve) (jh hk e1 (by decide))).trans hk) f2 (by decide))).trans ((setRow_other V A s (im3 s ve) (jh hk e1 (by decide))).trans hk),(hs.jf e1 (by decide) (by decide) _).jf f2 (by decide) (by decide) _⟩
theorem ru{fn:Func}{a b c:Tmp}{ta tb tc:TypeId}(h:fn.results=#[.cell a ta,.cell b tb,.cell c tc])(tmps:Array Value)(w:World)(ga gb gc:Nat)(ua ub uc:TypeId)(ca cb cc:Array Value)(fa fb fc:Nat × Nat){da db dc:Array Field}
  (ha:tmps.getD a undef= .pointer (some ⟨ga,0,none⟩)) (hb:tmps.getD b undef= .pointer (some ⟨gb,0,none⟩)) (hc:tmps.getD c undef= .pointer (some ⟨gc,0,none⟩)) (hga:w.heap[ga]? =some (.cells ca ua fa)) (hgb:w.heap[gb]? =some (.cells cb ub fb)) (hgc:w.heap[gc]? =some (.cells cc uc fc))
  (hua:Tryz.prog.underlying ta=some (.struct da)) (hia:(Tryz.prog.info? ta).map (·.size)=some ca.size)
  (hub:Tryz.prog.underlying tb=some (.struct db)) (hib:(Tryz.prog.info? tb).map (·.size)=some cb.size)
  (huc:Tryz.prog.underlying tc=some (.struct dc)) (hic:(Tryz.prog.info? tc).map (·.size)=some cc.size):
  (results fn tmps).run Tryz.prog w= .ok (.tuple #[.agg ca,.agg cb,.agg cc]) w:=by
 have ha':tmps[a]?.getD undef= .pointer (some ⟨ga,0,none⟩):=by simpa using ha
 have hb':tmps[b]?.getD undef= .pointer (some ⟨gb,0,none⟩):=by simpa using hb
 have hc':tmps[c]?.getD undef= .pointer (some ⟨gc,0,none⟩):=by simpa using hc
 simp[results,h,ha',hb',hc',asAddr,run_loadVar_row w ga ua ta ca fa _ hga hua rfl hia,run_loadVar_row w gb ub tb cb fb _ hgb hub rfl hib,run_loadVar_row w gc uc tc cc fc _ hgc huc rfl hic]
theorem Ja:(Tryz.prog.info? 23).map (·.size)=some 4:=by kernel_rfl
theorem yX:(Tryz.prog.info? 43).map (·.size)=some 2:=by kernel_rfl
theorem TyL.setRow{V:World}{p:Option Addr}{e t:TypeId}(h:TyL V p e){B:Nat}{A:Array Value}{f:Nat × Nat}(hB:V.heap[B]? =some (.cells A t f))(ne:e≠t)(C:Array Value):TyL (V.setRow B C) p e:=fun g hg=>by
 obtain⟨D,hD⟩:=h g hg;exact⟨D,(setRow_other _ _ _ _ (jh hD hB ne)).trans hD⟩
theorem zH{W:World}{g:Nat}{A:Array Value}{t:TypeId}{f:Nat × Nat}(h:W.heap[g]? =some (.cells A t f))(k:Nat)(l:List Value)(hl:∀ j v,l[j]? =some v→A[k+j]? =some v):W.rangeAt g k l:=fun j v hv=>ae h _ _ (hl j v hv)

set_option maxHeartbeats 4000000 in
theorem rP(p:Option Addr)(n c:Nat)(n0 n1 n2 n3:Int)(pt:Option Addr)(nt ct:Nat)(w:World)(h:Rw5 w p n)(hn:n≤9223372036854775807)(hc:n≤c)(ht:Ri w pt nt)(hnt:nt≤9223372036854775807):
  Calls Tryz.prog 13 #[.agg #[.slice p n c,.int .i64 n0,.int .i64 n1,.int .i64 n2,.int .i64 n3,.slice pt nt ct]] w fun e w'=>Jz e w'∧Below w.heap.size w w':=by
 obtain⟨k,hk,hkn⟩:∃ k:Nat,(if 60 < (n:Int) then(60:Int) else n)=(k:Int)∧k≤n:=by
  by_cases h60:60 < (n:Int)
  ·exact⟨60,if_pos h60,by omega⟩
  ·exact⟨n,if_neg h60,Nat.le_refl _⟩
 have hkc:(k:Int)≤(c:Int):=by omega
 have hk0:(0:Int)≤(k:Int):=by omega
 have hLd:=fun (W:World) (hb:Below w.heap.size w W)=>Gh p k c n0 n1 n2 n3 W (fun i hi=>h.below hb i (by omega)) (by omega) (by omega)
 have hTp:=fun (W:World) (hb:Below w.heap.size w W)=>EO pt nt ct W (fun i hi=>by obtain⟨g,o,x,e,hx⟩:=ht i hi;exact⟨g,o,x,e,fun V hV=>hx V (hb.trans (hV.mono hb.size))⟩) hnt
 have H0:=heap_alloc_new w (.cells #[.slice p n c,.int .i64 n0,.int .i64 n1,.int .i64 n2,.int .i64 n3,.slice pt nt ct] 26);clear h hn hc ht hnt hkn;go_enter Tryz.func13,Tryz.ntmps13
 go_upto_region 1 with fail
 obtain⟨W0,hW0⟩:∃ W,(((w.alloc (.cells #[.slice p n c,.int .i64 n0,.int .i64 n1,.int .i64 n2,.int .i64 n3,.slice pt nt ct] 26)).alloc (.cells #[.slice none 0 0,.int .u16 0,.int .u16 0,.slice none 0 0,.slice none 0 0] 33)).alloc (.cells #[.int .u16 0,.int .u16 0,.int .u16 0,.int .u16 0,.int .u16 0,.int .u16 0,.int .u16 0,.int .u16 0,.int .u16 0,.int .u16 0,.int .u16 0,.int .u16 0,.int .i64 0,.int .i64 0,.int .i64 0,.int .i64 0,.string ⟨#[]⟩,.slice none 0 0,.slice none 0 0] 40)).alloc (.cells #[.slice none 0 0,.slice none 0 0] 43)=W:=⟨_,rfl⟩;have c0:=aj _ (.cells #[.slice none 0 0,.slice none 0 0] 43) _ (aj _ (.cells #[.int .u16 0,.int .u16 0,.int .u16 0,.int .u16 0,.int .u16 0,.int .u16 0,.int .u16 0,.int .u16 0,.int .u16 0,.int .u16 0,.int .u16 0,.int .u16 0,.int .i64 0,.int .i64 0,.int .i64 0,.int .i64 0,.string ⟨#[]⟩,.slice none 0 0,.slice none 0 0] 40) _ (aj _ (.cells #[.slice none 0 0,.int .u16 0,.int .u16 0,.slice none 0 0,.slice none 0 0] 33) _ H0));have c1:=aj _ (.cells #[.slice none 0 0,.slice none 0 0] 43) _ (aj _ (.cells #[.int .u16 0,.int .u16 0,.int .u16 0,.int .u16 0,.int .u16 0,.int .u16 0,.int .u16 0,.int .u16 0,.int .u16 0,.int .u16 0,.int .u16 0,.int .u16 0,.int .i64 0,.int .i64 0,.int .i64 0,.int .i64 0,.string ⟨#[]⟩,.slice none 0 0,.slice none 0 0] 40) _ (heap_alloc_new (w.alloc (.cells #[.slice p n c,.int .i64 n0,.int .i64 n1,.int .i64 n2,.int .i64 n3,.slice pt nt ct] 26)) (.cells #[.slice none 0 0,.int .u16 0,.int .u16 0,.slice none 0 0,.slice none 0 0] 33)));have c2:=aj _ (.cells #[.slice none 0 0,.slice none 0 0] 43) _ (heap_alloc_new ((w.alloc (.cells #[.slice p n c,.int .i64 n0,.int .i64 n1,.int .i64 n2,.int .i64 n3,.slice pt nt ct] 26)).alloc (.cells #[.slice none 0 0,.int .u16 0,.int .u16 0,.slice none 0 0,.slice none 0 0] 33)) (.cells #[.int .u16 0,.int .u16 0,.int .u16 0,.int .u16 0,.int .u16 0,.int .u16 0,.int .u16 0,.int .u16 0,.int .u16 0,.int .u16 0,.int .u16 0,.int .u16 0,.int .i64 0,.int .i64 0,.int .i64 0,.int .i64 0,.string ⟨#[]⟩,.slice none 0 0,.slice none 0 0] 40));have c3:=heap_alloc_new (((w.alloc (.cells #[.slice p n c,.int .i64 n0,.int .i64 n1,.int .i64 n2,.int .i64 n3,.slice pt nt ct] 26)).alloc (.cells #[.slice none 0 0,.int .u16 0,.int .u16 0,.slice none 0 0,.slice none 0 0] 33)).alloc (.cells #[.int .u16 0,.int .u16 0,.int .u16 0,.int .u16 0,.int .u16 0,.int .u16 0,.int .u16 0,.int .u16 0,.int .u16 0,.int .u16 0,.int .u16 0,.int .u16 0,.int .i64 0,.int .i64 0,.int .i64 0,.int .i64 0,.string ⟨#[]⟩,.slice none 0 0,.slice none 0 0] 40)) (.cells #[.slice none 0 0,.slice none 0 0] 43);have cb:Below w.heap.size w W0:=by rw[← hW0];exact((((Below.refl _ w).alloc (Nat.le_refl _) _).alloc (by simp) _).alloc (by simp;omega) _).alloc (by simp;omega) _
 simp only[World.size_alloc] at c1 c2 c3;rw[hW0] at c0 c1 c2 c3;rw[hW0];obtain⟨m,hm⟩:∃ m,w.heap.size=m:=⟨_,rfl⟩;have HSx:=Nc (fun U (hU:Below W0.heap.size W0 U)=>show U.cell? ⟨m,0,none⟩=some (.slice p n c)∧U.rangeAt m 1 [.int .i64 n0,.int .i64 n1,.int .i64 n2,.int .i64 n3] from by
  rw[← hm];have:=af c0 hU;exact⟨ae this 0 _ rfl,zH this 1 _ (fun j v hv=>by rcases j with _ | _ | _ | _ | j<;>simp_all)⟩)
 have HLd:=Nc (fun U (hU:Below W0.heap.size W0 U)=>hLd U (cb.trans (hU.mono cb.size)));have HTp:=Nc (fun U (hU:Below W0.heap.size W0 U)=>hTp U (cb.trans (hU.mono cb.size)));have HT:=Nc (Tb.start W0);have HC:=Nc (And.intro c0 (And.intro c1 (And.intro c2 (And.intro c3 cb))));rw[hm] at HC;rw[hm];have HN:=Nc hm;clear hLd hTp H0 hW0 c0 c1 c2 c3 cb hm;go_cut [5,6] from 7 to 19 (fun u v wx=>∃ A B s fa fb fc ve X pX cX,u= .pointer (some ⟨A,0,none⟩)∧v= .pointer (some ⟨B,0,none⟩)∧Hid ((imX fa fb fc ve).Ok∧X.Ok∧X.stk.length≤9∧X.stk.length≤cX∧X.out=[]∧X.ram.size=8192)∧Hid (LsF W0 A B s fa fb fc ve X pX cX wx))
 case first=>
  refine wp_region_held_drew (S:=fun w'=>w'.cell? ⟨m,0,none⟩=some (.slice p n c)∧w'.rangeAt m 1 [.int .i64 n0,.int .i64 n1,.int .i64 n2,.int .i64 n3]) (by kernel_rfl) (HSx.out _ HT.out.bel) (fun hHeld=>?_);have HT':=HT.out;obtain⟨WD,hWD⟩:∃ x,W0.drew=x:=⟨_,rfl⟩;rw[hWD] at HT' hHeld;rw[hWD];have HT:=Nc HT';clear HT' hWD;refine tq 0 rfl ?_;refine tq 1 rfl ?_;refine tq 2 rfl ?_;refine tq 3 rfl ?_;refine tq 4 rfl ?_;refine tq 5 rfl ?_;refine tq 6 rfl ?_;refine tq 7 rfl ?_;refine tk 8 _ rfl (yieldsIf_load_mid (by rfl) 23 _ rfl m 1 rfl [.int .i64 n0,.int .i64 n1,.int .i64 n2,.int .i64 n3] _ (fun w hw=>hw.2) Tryz.underlying23 rfl Ja) ?_;refine wpAnyH_ready (rs:=[9,13,14]) (by kernel_rfl) (by simp) (AllReadyH.cons rfl (fun K hK=>?_) (AllReadyH.cons rfl (fun K hK=>?_) (AllReadyH.cons rfl (fun K hK=>?_) AllReadyH.nil)))
  ·clear hHeld
   go_simp;go_at_call 31;with_reducible refine(HLd.out _ HT.out.bel).mono ?_
   rintro e w6 ⟨⟨s,fa,fb,fc,ve,X,pX,cX,rfl,o1,o2,hk,hs,o3⟩,hb⟩;have HT:=Nc (HT.out.next hb);have HS:=Nc (And.intro hk hs);have HO:=Nc (And.intro o1 (And.intro o2 o3));clear hs hk hb o1 o2 o3;go_wp2_with fail
   refine hK.out _ _ (HSx.out _ HT.out.bel) (fun hHeld=>?_);clear hK K
   try simp only[lay]
   refine tq 10 rfl ?_;refine tq 11 rfl ?_;refine tq 12 rfl ?_;refine wpAnyH_ready (rs:=[13,14]) (by kernel_rfl) (by simp) (AllReadyH.cons rfl (fun K hK=>?_) (AllReadyH.cons rfl (fun K hK=>?_) AllReadyH.nil))
   ·clear hHeld
    go_simp;have HT:=Nc (HT.out.box #[.slice none 0 0,.int .u16 0,.int .u16 0,.slice none 0 0,.slice none 0 0] 33)
    try simp only[World.size_alloc] at HT
    have HS:=Nc (And.intro (aj _ (.cells #[.slice none 0 0,.int .u16 0,.int .u16 0,.slice none 0 0,.slice none 0 0] 33) _ HS.out.1) (HS.out.2.below ((Below.refl _ _).alloc (Nat.le_refl _) (.cells #[.slice none 0 0,.int .u16 0,.int .u16 0,.slice none 0 0,.slice none 0 0] 33))));refine hK.out _ _ (HSx.out _ HT.out.bel) (fun hHeld=>?_);clear hK K
    try simp only[lay]
    refine rd1 14 rfl (fun K hK=>?_);clear hHeld;go_simp;have HT:=Nc (HT.out.box zS 40)
    try simp only[World.size_alloc] at HT
    have HS:=Nc (And.intro (aj _ (.cells zS 40) _ HS.out.1) (HS.out.2.below ((Below.refl _ _).alloc (Nat.le_refl _) (.cells zS 40))));refine hK.out _ _ (HSx.out _ HT.out.bel) (fun hHeld=>?_);clear hK K
    try simp only[lay]
    have HL:=Nc (LsF.new (ve:=ve) (c:=cX) HT.out (List.mem_cons_of_mem _ List.mem_cons_self) List.mem_cons_self HS.out.1 HS.out.2);refine sQ 15 16 (HT.out.has _ (List.mem_cons_of_mem _ List.mem_cons_self)).2 (HT.out.has _ List.mem_cons_self).2 (show(33:TypeId)≠40 by decide) (C1:=im3 s ve) (C2:=snA X pX cX none 0) rfl rfl (by simp[im3,Value.oneCell']) (by simp[snA,Value.oneCell']) dP aU (HSx.out _ (below_setRow HT.out.bel (HT.out.has _ (List.mem_cons_of_mem _ List.mem_cons_self)).1 _)) (HSx.out _ HL.out.bel) rfl rfl rfl rfl rfl rfl (by rfl) (by rfl) rfl rfl rfl rfl (by kernel_rfl) (by kernel_rfl) (by kernel_rfl) ?_;go_wp2_with fail
    go_meet
    exact⟨_,_,_,_,_,_,_,_,_,_,rfl,rfl,HO,HL⟩
   ·clear hHeld
    go_simp;have HT:=Nc (HT.out.box zS 40)
    try simp only[World.size_alloc] at HT
    have HS:=Nc (And.intro (aj _ (.cells zS 40) _ HS.out.1) (HS.out.2.below ((Below.refl _ _).alloc (Nat.le_refl _) (.cells zS 40))));refine hK.out _ _ (HSx.out _ HT.out.bel) (fun hHeld=>?_);clear hK K
    try simp only[lay]
    refine rd1 13 rfl (fun K hK=>?_);clear hHeld;go_simp;have HT:=Nc (HT.out.box #[.slice none 0 0,.int .u16 0,.int .u16 0,.slice none 0 0,.slice none 0 0] 33)
    try simp only[World.size_alloc] at HT
    have HS:=Nc (And.intro (aj _ (.cells #[.slice none 0 0,.int .u16 0,.int .u16 0,.slice none 0 0,.slice none 0 0] 33) _ HS.out.1) (HS.out.2.below ((Below.refl _ _).alloc (Nat.le_refl _) (.cells #[.slice none 0 0,.int .u16 0,.int .u16 0,.slice none 0 0,.slice none 0 0] 33))));refine hK.out _ _ (HSx.out _ HT.out.bel) (fun hHeld=>?_);clear hK K
    try simp only[lay]
    have HL:=Nc (LsF.new (ve:=ve) (c:=cX) HT.out List.mem_cons_self (List.mem_cons_of_mem _ List.mem_cons_self) HS.out.1 HS.out.2);refine sQ 15 16 (HT.out.has _ List.mem_cons_self).2 (HT.out.has _ (List.mem_cons_of_mem _ List.mem_cons_self)).2 (show(33:TypeId)≠40 by decide) (C1:=im3 s ve) (C2:=snA X pX cX none 0) rfl rfl (by simp[im3,Value.oneCell']) (by simp[snA,Value.oneCell']) dP aU (HSx.out _ (below_setRow HT.out.bel (HT.out.has _ List.mem_cons_self).1 _)) (HSx.out _ HL.out.bel) rfl rfl rfl rfl rfl rfl (by rfl) (by rfl) rfl rfl rfl rfl (by kernel_rfl) (by kernel_rfl) (by kernel_rfl) ?_;go_wp2_with fail
    go_meet
    exact⟨_,_,_,_,_,_,_,_,_,_,rfl,rfl,HO,HL⟩
  ·clear hHeld
   go_simp;have HT:=Nc (HT.out.box #[.slice none 0 0,.int .u16 0,.int .u16 0,.slice none 0 0,.slice none 0 0] 33)
   try simp only[World.size_alloc] at HT
   refine hK.out _ _ (HSx.out _ HT.out.bel) (fun hHeld=>?_);clear hK K
   try simp only[lay]
   refine wpAnyH_ready (rs:=[9,14]) (by kernel_rfl) (by simp) (AllReadyH.cons rfl (fun K hK=>?_) (AllReadyH.cons rfl (fun K hK=>?_) AllReadyH.nil))
   ·clear hHeld
    go_simp;go_at_call 31;with_reducible refine(HLd.out _ HT.out.bel).mono ?_
    rintro e w6 ⟨⟨s,fa,fb,fc,ve,X,pX,cX,rfl,o1,o2,hk,hs,o3⟩,hb⟩;have HT:=Nc (HT.out.next hb);have HS:=Nc (And.intro hk hs);have HO:=Nc (And.intro o1 (And.intro o2 o3));clear hs hk hb o1 o2 o3;go_wp2_with fail
    refine hK.out _ _ (HSx.out _ HT.out.bel) (fun hHeld=>?_);clear hK K
    try simp only[lay]
    refine tq 10 rfl ?_;refine tq 11 rfl ?_;refine tq 12 rfl ?_;refine rd1 14 rfl (fun K hK=>?_);clear hHeld;go_simp;have HT:=Nc (HT.out.box zS 40)
    try simp only[World.size_alloc] at HT
    have HS:=Nc (And.intro (aj _ (.cells zS 40) _ HS.out.1) (HS.out.2.below ((Below.refl _ _).alloc (Nat.le_refl _) (.cells zS 40))));refine hK.out _ _ (HSx.out _ HT.out.bel) (fun hHeld=>?_);clear hK K
    try simp only[lay]
    have HL:=Nc (LsF.new (ve:=ve) (c:=cX) HT.out (List.mem_cons_of_mem _ List.mem_cons_self) List.mem_cons_self HS.out.1 HS.out.2);refine sQ 15 16 (HT.out.has _ (List.mem_cons_of_mem _ List.mem_cons_self)).2 (HT.out.has _ List.mem_cons_self).2 (show(33:TypeId)≠40 by decide) (C1:=im3 s ve) (C2:=snA X pX cX none 0) rfl rfl (by simp[im3,Value.oneCell']) (by simp[snA,Value.oneCell']) dP aU (HSx.out _ (below_setRow HT.out.bel (HT.out.has _ (List.mem_cons_of_mem _ List.mem_cons_self)).1 _)) (HSx.out _ HL.out.bel) rfl rfl rfl rfl rfl rfl (by rfl) (by rfl) rfl rfl rfl rfl (by kernel_rfl) (by kernel_rfl) (by kernel_rfl) ?_;go_wp2_with fail
    go_meet
    exact⟨_,_,_,_,_,_,_,_,_,_,rfl,rfl,HO,HL⟩
   ·clear hHeld
    go_simp;have HT:=Nc (HT.out.box zS 40)
    try simp only[World.size_alloc] at HT
    refine hK.out _ _ (HSx.out _ HT.out.bel) (fun hHeld=>?_);clear hK K
    try simp only[lay]
    refine rd1 9 rfl (fun K hK=>?_);clear hHeld;go_simp;go_at_call 31;with_reducible refine(HLd.out _ HT.out.bel).mono ?_
    rintro e w6 ⟨⟨s,fa,fb,fc,ve,X,pX,cX,rfl,o1,o2,hk,hs,o3⟩,hb⟩;have HT:=Nc (HT.out.next hb);have HS:=Nc (And.intro hk hs);have HO:=Nc (And.intro o1 (And.intro o2 o3));clear hs hk hb o1 o2 o3;go_wp2_with fail
    refine hK.out _ _ (HSx.out _ HT.out.bel) (fun hHeld=>?_);clear hK K
    try simp only[lay]
    refine tq 10 rfl ?_;refine tq 11 rfl ?_;refine tq 12 rfl ?_;have HL:=Nc (LsF.new (ve:=ve) (c:=cX) HT.out (List.mem_cons_of_mem _ List.mem_cons_self) List.mem_cons_self HS.out.1 HS.out.2);refine sQ 15 16 (HT.out.has _ (List.mem_cons_of_mem _ List.mem_cons_self)).2 (HT.out.has _ List.mem_cons_self).2 (show(33:TypeId)≠40 by decide) (C1:=im3 s ve) (C2:=snA X pX cX none 0) rfl rfl (by simp[im3,Value.oneCell']) (by simp[snA,Value.oneCell']) dP aU (HSx.out _ (below_setRow HT.out.bel (HT.out.has _ (List.mem_cons_of_mem _ List.mem_cons_self)).1 _)) (HSx.out _ HL.out.bel) rfl rfl rfl rfl rfl rfl (by rfl) (by rfl) rfl rfl rfl rfl (by kernel_rfl) (by kernel_rfl) (by kernel_rfl) ?_;go_wp2_with fail
    go_meet
    exact⟨_,_,_,_,_,_,_,_,_,_,rfl,rfl,HO,HL⟩
  ·clear hHeld
   go_simp;have HT:=Nc (HT.out.box zS 40)
   try simp only[World.size_alloc] at HT
   refine hK.out _ _ (HSx.out _ HT.out.bel) (fun hHeld=>?_);clear hK K
   try simp only[lay]
   refine wpAnyH_ready (rs:=[9,13]) (by kernel_rfl) (by simp) (AllReadyH.cons rfl (fun K hK=>?_) (AllReadyH.cons rfl (fun K hK=>?_) AllReadyH.nil))
   ·clear hHeld
    go_simp;go_at_call 31;with_reducible refine(HLd.out _ HT.out.bel).mono ?_
    rintro e w6 ⟨⟨s,fa,fb,fc,ve,X,pX,cX,rfl,o1,o2,hk,hs,o3⟩,hb⟩;have HT:=Nc (HT.out.next hb);have HS:=Nc (And.intro hk hs);have HO:=Nc (And.intro o1 (And.intro o2 o3));clear hs hk hb o1 o2 o3;go_wp2_with fail
    refine hK.out _ _ (HSx.out _ HT.out.bel) (fun hHeld=>?_);clear hK K
    try simp only[lay]
    refine tq 10 rfl ?_;refine tq 11 rfl ?_;refine tq 12 rfl ?_;refine rd1 13 rfl (fun K hK=>?_);clear hHeld;go_simp;have HT:=Nc (HT.out.box #[.slice none 0 0,.int .u16 0,.int .u16 0,.slice none 0 0,.slice none 0 0] 33)
    try simp only[World.size_alloc] at HT
    have HS:=Nc (And.intro (aj _ (.cells #[.slice none 0 0,.int .u16 0,.int .u16 0,.slice none 0 0,.slice none 0 0] 33) _ HS.out.1) (HS.out.2.below ((Below.refl _ _).alloc (Nat.le_refl _) (.cells #[.slice none 0 0,.int .u16 0,.int .u16 0,.slice none 0 0,.slice none 0 0] 33))));refine hK.out _ _ (HSx.out _ HT.out.bel) (fun hHeld=>?_);clear hK K
    try simp only[lay]
    have HL:=Nc (LsF.new (ve:=ve) (c:=cX) HT.out List.mem_cons_self (List.mem_cons_of_mem _ List.mem_cons_self) HS.out.1 HS.out.2);refine sQ 15 16 (HT.out.has _ List.mem_cons_self).2 (HT.out.has _ (List.mem_cons_of_mem _ List.mem_cons_self)).2 (show(33:TypeId)≠40 by decide) (C1:=im3 s ve) (C2:=snA X pX cX none 0) rfl rfl (by simp[im3,Value.oneCell']) (by simp[snA,Value.oneCell']) dP aU (HSx.out _ (below_setRow HT.out.bel (HT.out.has _ List.mem_cons_self).1 _)) (HSx.out _ HL.out.bel) rfl rfl rfl rfl rfl rfl (by rfl) (by rfl) rfl rfl rfl rfl (by kernel_rfl) (by kernel_rfl) (by kernel_rfl) ?_;go_wp2_with fail
    go_meet
    exact⟨_,_,_,_,_,_,_,_,_,_,rfl,rfl,HO,HL⟩
   ·clear hHeld
    go_simp;have HT:=Nc (HT.out.box #[.slice none 0 0,.int .u16 0,.int .u16 0,.slice none 0 0,.slice none 0 0] 33)
    try simp only[World.size_alloc] at HT
    refine hK.out _ _ (HSx.out _ HT.out.bel) (fun hHeld=>?_);clear hK K
    try simp only[lay]
    refine rd1 9 rfl (fun K hK=>?_);clear hHeld;go_simp;go_at_call 31;with_reducible refine(HLd.out _ HT.out.bel).mono ?_
    rintro e w6 ⟨⟨s,fa,fb,fc,ve,X,pX,cX,rfl,o1,o2,hk,hs,o3⟩,hb⟩;have HT:=Nc (HT.out.next hb);have HS:=Nc (And.intro hk hs);have HO:=Nc (And.intro o1 (And.intro o2 o3));clear hs hk hb o1 o2 o3;go_wp2_with fail
    refine hK.out _ _ (HSx.out _ HT.out.bel) (fun hHeld=>?_);clear hK K
    try simp only[lay]
    refine tq 10 rfl ?_;refine tq 11 rfl ?_;refine tq 12 rfl ?_;have HL:=Nc (LsF.new (ve:=ve) (c:=cX) HT.out List.mem_cons_self (List.mem_cons_of_mem _ List.mem_cons_self) HS.out.1 HS.out.2);refine sQ 15 16 (HT.out.has _ List.mem_cons_self).2 (HT.out.has _ (List.mem_cons_of_mem _ List.mem_cons_self)).2 (show(33:TypeId)≠40 by decide) (C1:=im3 s ve) (C2:=snA X pX cX none 0) rfl rfl (by simp[im3,Value.oneCell']) (by simp[snA,Value.oneCell']) dP aU (HSx.out _ (below_setRow HT.out.bel (HT.out.has _ List.mem_cons_self).1 _)) (HSx.out _ HL.out.bel) rfl rfl rfl rfl rfl rfl (by rfl) (by rfl) rfl rfl rfl rfl (by kernel_rfl) (by kernel_rfl) (by kernel_rfl) ?_;go_wp2_with fail
    go_meet
    exact⟨_,_,_,_,_,_,_,_,_,_,rfl,rfl,HO,HL⟩
 case rest=>
  obtain⟨A,B,s,fa,fb,fc,ve,X,pX,cX,rfl,rfl,HO,HL⟩:=hcut;have HLd2:=Nc (HL.out.next (Below.refl _ _).drew);have b1:=HLd2.out.ba;have b2:=HLd2.out.bb;have hb:=HLd2.out.bel;have r0:=af HC.out.1 hb;have r1:=af HC.out.2.1 hb;have r2:=af HC.out.2.2.1 hb;have r3:=af HC.out.2.2.2.1 hb;have hS2:wc.drew.heap[A]? =some (.cells (im3 s ve) 33 (0,0))∧wc.drew.heap[B]? =some (.cells (snA X pX cX none 0) 40 (0,0))∧wc.drew.cell? ⟨m,5,none⟩=some (.slice pt nt ct):=⟨b1,b2,ae r0 5 _ rfl⟩;have HS2:=Nc hS2;clear b1 b2 hb r0 r1 r2 r3 hS2;go_upto_region 2 with fail
  refine wp_region_held_drew (S:=fun w'=>w'.heap[A]? =some (.cells (im3 s ve) 33 (0,0))∧w'.heap[B]? =some (.cells (snA X pX cX none 0) 40 (0,0))∧w'.cell? ⟨m,5,none⟩=some (.slice pt nt ct)) (by kernel_rfl) HS2.out (fun hHeld=>?_);obtain⟨WD,hWD⟩:∃ x,wc.drew=x:=⟨_,rfl⟩;have HLx:=HLd2.out;rw[hWD] at HLx hHeld;rw[hWD];have HL3:=Nc HLx;clear HLx hWD HLd2;refine tk 0 _ rfl (yieldsIf_load_mid (by rfl) 33 _ rfl A 0 rfl [.slice (some ⟨s,0,none⟩) 3 3,.int .u16 0,.int .u16 ve,.slice none 0 0,.slice none 0 0] _ (fun w hw=>aH hw.1 _ (fun j v hv=>by rw[← hv];simp[im3])) Tryz.underlying33 rfl mO) ?_;refine tk 1 _ rfl (yieldsIf_load_mid (by rfl) 40 _ rfl B 0 rfl (snL X pX cX none 0) _ (fun w hw=>aH hw.2.1 _ (fun j v hv=>by rw[← hv];simp[snL,snA])) Tryz.underlying40 rfl mM) ?_;refine tq 2 rfl ?_;refine tq 3 rfl ?_;refine rd1 4 rfl (fun K hK=>?_);clear hHeld;go_simp;go_at_call 32;with_reducible refine(HTp.out _ HL3.out.bel).mono ?_
  rintro e w7 ⟨⟨T,pi,pq,ci,cq,rfl,hT,hs1,hs2,hy1,hy2⟩,hb⟩;have HL4:=Nc (HL3.out.next hb);have HT2:=Nc (And.intro hT (And.intro hs1 hs2));have HT3:=Nc (And.intro hy1 hy2);clear hT hs1 hs2 hb hy1 hy2;go_wp2_with fail
  have hb:=HL4.out.bel;have b1:=HL4.out.ba;have b2:=HL4.out.bb;have b3:=HL4.out.bks;have r0:=af HC.out.1 hb;have r1:=af HC.out.2.1 hb;have r2:=af HC.out.2.2.1 hb;have r3:=af HC.out.2.2.2.1 hb;have lt3:=lt_of_block HC.out.2.2.2.1;have ga:=HL4.out.ga;have gb:=HL4.out.gb;obtain⟨C3,hC3⟩:∃ C:Array Value,#[.slice pi T.inn.length ci,.slice pq T.irq.length cq]=C:=⟨_,rfl⟩;have s1A:=(setRow_other w7 (m+1) A (im3 s ve) (by omega)).trans b1;have s1B:=(setRow_other w7 (m+1) B (im3 s ve) (by omega)).trans b2;have s1s:=(setRow_other w7 (m+1) s (im3 s ve) (jh b3 r1 (by decide))).trans b3;have s10:=(setRow_other w7 (m+1) m (im3 s ve) (by omega)).trans r0;have s11:=setRow_heap w7 (m+1) _ (im3 s ve) _ _ r1;have s12:=(setRow_other w7 (m+1) (m+1+1) (im3 s ve) (by omega)).trans r2;have s13:=(setRow_other w7 (m+1) (m+1+1+1) (im3 s ve) (by omega)).trans r3;have s2A:=(setRow_other _ (m+1+1) A (snA X pX cX none 0) (by omega)).trans s1A;have s2B:=(setRow_other _ (m+1+1) B (snA X pX cX none 0) (by omega)).trans s1B;have s2s:=(setRow_other _ (m+1+1) s (snA X pX cX none 0) (jh s1s s12 (by decide))).trans s1s;have s20:=(setRow_other _ (m+1+1) m (snA X pX cX none 0) (by omega)).trans s10;have s21:=(setRow_other _ (m+1+1) (m+1) (snA X pX cX none 0) (by omega)).trans s11;have s22:=setRow_heap _ (m+1+1) _ (snA X pX cX none 0) _ _ s12;have s23:=(setRow_other _ (m+1+1) (m+1+1+1) (snA X pX cX none 0) (by omega)).trans s13;have s3A:=(setRow_other _ (m+1+1+1) A C3 (by omega)).trans s2A;have s3B:=(setRow_other _ (m+1+1+1) B C3 (by omega)).trans s2B;have s3s:=(setRow_other _ (m+1+1+1) s C3 (jh s2s s23 (by decide))).trans s2s;have s30:=(setRow_other _ (m+1+1+1) m C3 (by omega)).trans s20;have s31:=(setRow_other _ (m+1+1+1) (m+1) C3 (by omega)).trans s21;have s32:=(setRow_other _ (m+1+1+1) (m+1+1) C3 (by omega)).trans s22;have s33:=setRow_heap _ (m+1+1+1) _ C3 _ _ s23;have hs3:=((HL4.out.sn.jf r1 (by decide) (by decide) (im3 s ve)).jf s12 (by decide) (by decide) (snA X pX cX none 0)).jf s23 (by decide) (by decide) C3;have hb3:Below m w (((w7.setRow (m+1) (im3 s ve)).setRow (m+1+1) (snA X pX cX none 0)).setRow (m+1+1+1) C3):=by
   have e0:=HC.out.2.2.2.2;exact below_setRow (below_setRow (below_setRow (e0.trans (hb.mono (by have h1:=e0.size;have h2:=HN.out;omega))) (by omega) _) (by omega) _) (by omega) _
  have y0:=HT3.out.1;have y1:=y0.setRow r1 (by decide) (im3 s ve);have y2:=y1.setRow s12 (by decide) (snA X pX cX none 0);have z0:=HT3.out.2;have z1:=z0.setRow r1 (by decide) (im3 s ve);have z2:=z1.setRow s12 (by decide) (snA X pX cX none 0);have ht1:=((HT2.out.2.1.jf r1 y0 (by decide) (C:=im3 s ve)).jf s12 y1 (by decide) (C:=snA X pX cX none 0)).jf s23 y2 (by decide) (C:=C3);have ht2:=((HT2.out.2.2.jf r1 z0 (by decide) (C:=im3 s ve)).jf s12 z1 (by decide) (C:=snA X pX cX none 0)).jf s23 z2 (by decide) (C:=C3);have hS1:(fun w'=>w'.heap[A]? =some (.cells (im3 s ve) 33 (0,0))∧w'.heap[B]? =some (.cells (snA X pX cX none 0) 40 (0,0))∧w'.cell? ⟨m,5,none⟩=some (.slice pt nt ct)) (w7.setRow (m+1) (im3 s ve)):=⟨s1A,s1B,ae s10 5 _ rfl⟩;have hS2:(fun w'=>w'.heap[A]? =some (.cells (im3 s ve) 33 (0,0))∧w'.heap[B]? =some (.cells (snA X pX cX none 0) 40 (0,0))∧w'.cell? ⟨m,5,none⟩=some (.slice pt nt ct)) ((w7.setRow (m+1) (im3 s ve)).setRow (m+1+1) (snA X pX cX none 0)):=⟨s2A,s2B,ae s20 5 _ rfl⟩;have hS3:(fun w'=>w'.heap[A]? =some (.cells (im3 s ve) 33 (0,0))∧w'.heap[B]? =some (.cells (snA X pX cX none 0) 40 (0,0))∧w'.cell? ⟨m,5,none⟩=some (.slice pt nt ct)) (((w7.setRow (m+1) (im3 s ve)).setRow (m+1+1) (snA X pX cX none 0)).setRow (m+1+1+1) C3):=⟨s3A,s3B,ae s30 5 _ rfl⟩;have hS0:(fun w'=>w'.heap[A]? =some (.cells (im3 s ve) 33 (0,0))∧w'.heap[B]? =some (.cells (snA X pX cX none 0) 40 (0,0))∧w'.cell? ⟨m,5,none⟩=some (.slice pt nt ct)) w7:=⟨b1,b2,ae r0 5 _ rfl⟩;have HS0:=Nc (And.intro hS0 (And.intro hS1 (And.intro hS2 hS3)));have HRw:=Nc (And.intro r1 (And.intro s12 s23));have HFin:=Nc (And.intro s31 (And.intro s32 s33));have HPost:=Nc (And.intro hb3 (And.intro hs3 (And.intro s3s (And.intro ht1 ht2))));have HC3:=Nc hC3;have hz3:2=C3.size:=by rw[← hC3];rfl
  clear hb b1 b2 b3 r0 r1 r2 r3 lt3 ga gb s1A s1B s1s s10 s11 s12 s13 s2A s2B s2s s20 s21 s22 s23 s3A s3B s3s s30 s31 s32 s33 hs3 hb3 y0 y1 y2 z0 z1 z2 ht1 ht2 hS0 hS1 hS2 hS3;refine hK.out _ _ HS0.out.1 (fun hHeld=>?_);clear hK K
  try simp only[lay]
  refine rd1 5 rfl (fun K hK=>?_);refine Eq.mpr (if_pos (by rfl)) ?_;refine wp_store_row 33 _ _ rfl (m+1) (im3 s ve) rfl rfl 33 _ HRw.out.1 dP (by rfl) (by simp[im3,Value.oneCell']) ?_;refine hK.out _ _ HS0.out.2.1 (fun hHeld=>?_);clear hK K
  try simp only[lay]
  refine rd1 6 rfl (fun K hK=>?_);refine Eq.mpr (if_pos (by rfl)) ?_;refine wp_store_row 40 _ _ rfl (m+1+1) (snA X pX cX none 0) rfl rfl 40 _ HRw.out.2.1 aU (by rfl) (by simp[snA,Value.oneCell']) ?_;refine hK.out _ _ HS0.out.2.2.1 (fun hHeld=>?_);clear hK K
  try simp only[lay]
  refine rd1 7 rfl (fun K hK=>?_);refine Eq.mpr (if_pos (by rfl)) ?_;refine wp_store_row 43 _ _ rfl (m+1+1+1) C3 rfl (by rw[HC3.out];rfl) 43 _ HRw.out.2.2 (by rw[← HC3.out];exact yX) hz3 (by rw[← HC3.out];simp[Value.oneCell']) ?_;refine hK.out _ _ HS0.out.2.2.2 (fun hHeld=>?_);clear hK K
  try simp only[lay]
  refine wpAnyH_done (by kernel_rfl) ?_ _;clear hHeld;go_wp2_with fail
  refine bodyPost_ret (v:= .tuple #[.agg (im3 s ve),.agg (snA X pX cX none 0),.agg C3]) (ru rfl _ _ (m+1) (m+1+1) (m+1+1+1) 33 40 43 _ _ _ (0,0) (0,0) (0,0) rfl rfl rfl HFin.out.1 HFin.out.2.1 HFin.out.2.2 Tryz.underlying33 mO Tryz.underlying40 mM Tryz.underlying43 (by rw[← HC3.out];exact yX)) rfl ?_;rw[HN.out];exact⟨⟨plX s,imX fa fb fc ve,X,pX,cX,T,pi,pq,ci,cq,by rw[← HC3.out];rfl,HO.out.1,HO.out.2.1,LW HPost.out.2.2.1,HPost.out.2.1,HO.out.2.2.1,HO.out.2.2.2.1,HO.out.2.2.2.2.1,HO.out.2.2.2.2.2,HT2.out.1,HPost.out.2.2.2.1,HPost.out.2.2.2.2⟩,HPost.out.1⟩
end Go.Proofs.YthkcloapiefggaaGreatDoor
