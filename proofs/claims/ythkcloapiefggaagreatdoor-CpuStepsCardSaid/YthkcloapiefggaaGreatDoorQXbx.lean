import Derived.Test.YthkcloapiefggaaGreatDoorQCrx
import Derived.Test.YthkcloapiefggaaGreatDoorQXsm
import Derived.Test.YthkcloapiefggaaGreatDoorQXst
namespace Go.Proofs.YthkcloapiefggaaGreatDoor
set_option linter.unusedVariables false
set_option linter.unusedSimpArgs false
set_option maxRecDepth 100000
set_option maxHeartbeats 1000000
open Go.ChangeShapes Go.WideShapes Go.RowKit
structure Ag(S:Ms)(m t:Nat→Int):Prop where
 m:∀ j,j < 8192→m j=S.ram j
 t:∀ j,j < S.sp→t j=S.stk j


theorem wo:(Tryz.prog.info? 26).map (·.size)=some 6:=by kernel_rfl
structure Bx3(V:World)(Z1 Z2 Z3 A1 A2 A3:Array Value)(t1 t2 t3:TypeId):Prop where
 z1:(((V.alloc (.cells Z1 t1)).alloc (.cells Z2 t2)).alloc (.cells Z3 t3)).heap[V.heap.size]? =some (.cells Z1 t1 (0,0))
 z2:((((V.alloc (.cells Z1 t1)).alloc (.cells Z2 t2)).alloc (.cells Z3 t3)).setRow V.heap.size A1).heap[V.heap.size+1]? =some (.cells Z2 t2 (0,0))
 z3:(((((V.alloc (.cells Z1 t1)).alloc (.cells Z2 t2)).alloc (.cells Z3 t3)).setRow V.heap.size A1).setRow (V.heap.size+1) A2).heap[V.heap.size+1+1]? =some (.cells Z3 t3 (0,0))
 a1:((((((V.alloc (.cells Z1 t1)).alloc (.cells Z2 t2)).alloc (.cells Z3 t3)).setRow V.heap.size A1).setRow (V.heap.size+1) A2).setRow (V.heap.size+1+1) A3).heap[V.heap.size]? =some (.cells A1 t1 (0,0))
 a2:((((((V.alloc (.cells Z1 t1)).alloc (.cells Z2 t2)).alloc (.cells Z3 t3)).setRow V.heap.size A1).setRow (V.heap.size+1) A2).setRow (V.heap.size+1+1) A3).heap[V.heap.size+1]? =some (.cells A2 t2 (0,0))
 a3:((((((V.alloc (.cells Z1 t1)).alloc (.cells Z2 t2)).alloc (.cells Z3 t3)).setRow V.heap.size A1).setRow (V.heap.size+1) A2).setRow (V.heap.size+1+1) A3).heap[V.heap.size+1+1]? =some (.cells A3 t3 (0,0))
 bel:Below V.heap.size V ((((((V.alloc (.cells Z1 t1)).alloc (.cells Z2 t2)).alloc (.cells Z3 t3)).setRow V.heap.size A1).setRow (V.heap.size+1) A2).setRow (V.heap.size+1+1) A3)
theorem bx3(V:World)(Z1 Z2 Z3 A1 A2 A3:Array Value)(t1 t2 t3:TypeId):Bx3 V Z1 Z2 Z3 A1 A2 A3 t1 t2 t3:=by
 have h1:=aj _ (.cells Z3 t3) _ (aj _ (.cells Z2 t2) _ (heap_alloc_new V (.cells Z1 t1)));have h2:=aj _ (.cells Z3 t3) _ (heap_alloc_new (V.alloc (.cells Z1 t1)) (.cells Z2 t2));have h3:=heap_alloc_new ((V.alloc (.cells Z1 t1)).alloc (.cells Z2 t2)) (.cells Z3 t3);simp only[World.size_alloc] at h2 h3;have f1:=setRow_heap _ V.heap.size _ A1 _ _ h1;have f2:=(setRow_other _ V.heap.size (V.heap.size+1) A1 (by omega)).trans h2;have f3:=(setRow_other _ V.heap.size (V.heap.size+1+1) A1 (by omega)).trans h3;have g1:=(setRow_other _ (V.heap.size+1) V.heap.size A2 (by omega)).trans f1;have g2:=setRow_heap _ (V.heap.size+1) _ A2 _ _ f2;have g3:=(setRow_other _ (V.heap.size+1) (V.heap.size+1+1) A2 (by omega)).trans f3;exact⟨h1,f2,g3,(setRow_other _ _ _ _ (by omega)).trans g1,(setRow_other _ _ _ _ (by omega)).trans g2,setRow_heap _ _ _ _ _ _ g3,
  below_setRow (below_setRow (below_setRow ((((Below.refl _ V).alloc (Nat.le_refl _) _).alloc (by simp) _).alloc (by simp;omega) _) (Nat.le_refl _) _) (by omega) _) (by omega) _⟩
def imR(P:Pl)(I:Im):Array Value:=#[.slice P.p0 I.banks.length P.c0,.int .u16 I.en,.int .u16 I.ve,.slice P.p1 I.data.length P.c1,.slice P.p2 I.rel.length P.c2]
structure St3(g:Nat)(P:Pl)(I:Im)(X:Sn)(pX:Option Addr)(cX:Nat)(T:Tp)(pi pq:Option Addr)(ci cq:Nat)(V:World):Prop where
 bi:V.heap[g]? =some (.cells (imR P I) 33 (0,0))
 bs:V.heap[g+1]? =some (.cells (snA X pX cX none 0) 40 (0,0))
 bt:V.heap[g+1+1]? =some (.cells #[.slice pi T.inn.length ci,.slice pq T.irq.length cq] 43 (0,0))
 iok:I.Ok
 xok:X.Ok
 tok:T.Ok
 has:Has V P I
 sn:SnH V X pX none
 hin:Slo V pi (inC T.inn)
 hir:Slo V pq (irC T.irq)
 tab:iq V
 xout:X.out=[]
theorem St3.next{g:Nat}{P:Pl}{I:Im}{X:Sn}{pX:Option Addr}{cX:Nat}{T:Tp}{pi pq:Option Addr}{ci cq:Nat}{V U:World}(h:St3 g P I X pX cX T pi pq ci cq V)(hb:Below V.heap.size V U):St3 g P I X pX cX T pi pq ci cq U:=
 ⟨af h.bi hb,af h.bs hb,af h.bt hb,h.iok,h.xok,h.tok,h.has.below hb,h.sn.below hb,h.hin.below hb,h.hir.below hb,bF (by have:=lt_of_block h.bi;omega) h.tab hb,h.xout⟩
theorem St3.run{g:Nat}{P:Pl}{I:Im}{X:Sn}{pX:Option Addr}{cX:Nat}{T:Tp}{pi pq:Option Addr}{ci cq:Nat}{V:World}(h:St3 g P I X pX cX T pi pq ci cq V)(Y:Sn)(p q:Option Addr)(c d:Nat)(most:Nat)(hY:Y.Ok)(hs:SnH V Y p q)(hm:most≤1000)(hl:Y.out.length≤1000000){S:Ms}{k i:Int}(hr:eP I T most (aQ Y)=(S,k,i)):
  Calls Tryz.prog 14 #[.agg #[.slice P.p0 I.banks.length P.c0,.int .u16 I.en,.int .u16 I.ve,.slice P.p1 I.data.length P.c1,.slice P.p2 I.rel.length P.c2],.agg #[.slice pi T.inn.length ci,.slice pq T.irq.length cq],snV Y p c q d,.int .i64 (most:Int)] V fun e w'=>(kK V.heap.size (au S) k i e w'∧OkE S)∧Below V.heap.size V w':=by
 have:=sS P I T pi pq ci cq Y p q c d most V h.iok h.tok hY h.has h.hin h.hir hs h.tab ⟨by omega,by omega⟩ (by rw[Int.toNat_natCast];omega);rw[Int.toNat_natCast,hr] at this;exact this
theorem Fg(V:World)(Y:Sn)(k i:Int)(c d:Nat)(p q:Option Addr)(Z:Array Value):(((V.alloc (.cells Z 40)).alloc (.cells #[.int .i64 0,.int .u16 0] 47))).heap[V.heap.size]? =some (.cells Z 40 (0,0))
  ∧((((V.alloc (.cells Z 40)).alloc (.cells #[.int .i64 0,.int .u16 0] 47))).setRow V.heap.size (snA Y p c q d)).heap[V.heap.size+1]? =some (.cells #[.int .i64 0,.int .u16 0] 47 (0,0)):=by
 have h1:=aj _ (.cells #[.int .i64 0,.int .u16 0] 47) _ (heap_alloc_new V (.cells Z 40));have h2:=heap_alloc_new (V.alloc (.cells Z 40)) (.cells #[.int .i64 0,.int .u16 0] 47);rw[World.size_alloc] at h2;exact⟨h1,(setRow_other _ _ _ _ (by omega)).trans h2⟩
end Go.Proofs.YthkcloapiefggaaGreatDoor
