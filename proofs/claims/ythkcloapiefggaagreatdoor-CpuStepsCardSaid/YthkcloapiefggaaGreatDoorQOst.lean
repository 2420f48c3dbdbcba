import Derived.Test.YthkcloapiefggaaGreatDoorQOpn
import Derived.Test.YthkcloapiefggaaGreatDoorQXla
import Derived.Deep.Strs
namespace Go.Proofs.YthkcloapiefggaaGreatDoor
set_option linter.unusedVariables false
set_option linter.unusedSimpArgs false
set_option maxRecDepth 100000
set_option maxHeartbeats 1000000
open Go.ChangeShapes Go.WideShapes Go.ChangeAt Go.RowKit
theorem nR{H:Type}{enc:TypeId × Value→H}{P:Program}{w:World}{base:Nat}{spare:Nat→Bool}{held:Bool}{e t:TypeId}{n fuel:Nat}{k:IntKind}{cs:List Value}{x:DataW H × List MemPlace}
  (ht:P.underlying t=some (.array n e)) (he:P.underlying e=some (.int k)) (hce:P.cellsOf e=1) (h:DataW.trod enc P w base spare held fuel t cs=some x):∀ j,j < n→∃ z,cs[j]? =some (.int k z):=by
 obtain⟨xs,m,_,_,hlen,hn,hel⟩:=DataW.trod_array ht h;intro j hj;have h1:=hel j hj;rw[List.getElem?_eq_getElem (by omega)] at h1;obtain⟨z,e1,_,_⟩:=DataW.trod_int he h1;rw[hce,Nat.mul_one] at e1;refine⟨z,?_⟩;have e2:=congrArg (·[0]?) e1;simpa [List.getElem?_take,List.getElem?_drop] using e2
theorem rO{w:World}{a:Addr}{v:Value}(h:w.cell? a=some v):a.spot=none:=by
 unfold World.cell? at h
 split at h
 ·cases hq:a.spot with
  | none=>rfl
  | some q=>rw[hq] at h;simp at h
 ·cases h
section
variable {H:Type} {enc:TypeId × Value→H} {w:World} {base:Nat} {spare:Nat→Bool} {held:Bool}
theorem JK{fuel:Nat}{cs:List Value}{x:DataW H × List MemPlace}(h:DataW.trod enc Tryz.prog w base spare held fuel 22 cs=some x):
  ∃ p n c,cs=[.slice p n c]∧Rw5 w p n∧n≤c∧c≤9223372036854775807:=by
 rcases Go.Deep.open_slice Tryz.underlying22 h with⟨h0,_⟩|⟨a,len,cap,m,n',D,Pl,h0,hb,hl,hm,hmm,_,hx⟩
 ·exact⟨none,0,0,h0,fun i hi=>absurd hi (Nat.not_lt_zero i),Nat.le_refl _,by decide⟩
 ·refine⟨some a,len,cap,h0,fun i hi=>?_,hl,by simpa [maxLen] using hm⟩
  have hlm:len≤m:=by rw[hmm];split<;>omega
  obtain⟨cs',h1,h2⟩:=hx i (by omega);have h5:Tryz.prog.cellsOf 53=5:=by kernel_rfl
  rw[h5] at h1;obtain⟨_,hlen,hcell⟩:=World.cells?_some h1;have hz:=nR Tryz.underlying53 Tryz.underlying3 (by kernel_rfl) h2;have hs:a.spot=none:=by
   obtain⟨cs0,g1,g2⟩:=hx 0 (by omega);rw[h5] at g1;obtain⟨_,_,gc⟩:=World.cells?_some g1;obtain⟨z,hz⟩:=nR Tryz.underlying53 Tryz.underlying3 (by kernel_rfl) g2 0 (by decide);have:=gc 0 (by decide);rw[hz,Nat.zero_mul,Addr.add_zero',Addr.add_zero'] at this;exact rO this
  obtain⟨g,o,sp⟩:=a;simp only at hs;subst hs;obtain⟨q0,e0⟩:=hz 0 (by decide);obtain⟨q1,e1⟩:=hz 1 (by decide);obtain⟨q2,e2⟩:=hz 2 (by decide);obtain⟨q3,e3⟩:=hz 3 (by decide);obtain⟨q4,e4⟩:=hz 4 (by decide);refine⟨g,o,q0,q1,q2,q3,q4,rfl,fun W hb j v hv=>?_⟩;have hj:j < 5:=(List.getElem?_eq_some_iff.1 hv).1;have hc:=hcell j hj;rw[Addr.add_lit,Addr.add_lit] at hc;have hv':cs'[j]? =some v:=by
   rcases(show j=0∨j=1∨j=2∨j=3∨j=4 by omega) with rfl|rfl|rfl|rfl|rfl
   ·rw[e0];exact hv
   ·rw[e1];exact hv
   ·rw[e2];exact hv
   ·rw[e3];exact hv
   ·rw[e4];exact hv
  rw[hv'] at hc;exact(hb.cell (p:=⟨g,o+i*5+j,none⟩) (World.block_lt_of_cell? _ _ hc)).trans hc
theorem Ku{fuel:Nat}{cs:List Value}{x:DataW H × List MemPlace}(h:DataW.trod enc Tryz.prog w base spare held fuel 24 cs=some x):
  ∃ p n c,cs=[.slice p n c]∧Ri w p n∧n≤c∧c≤9223372036854775807:=by
 rcases Go.Deep.open_slice Tryz.underlying24 h with⟨h0,_⟩|⟨a,len,cap,m,n',D,Pl,h0,hb,hl,hm,hmm,_,hx⟩
 ·exact⟨none,0,0,h0,fun i hi=>absurd hi (Nat.not_lt_zero i),Nat.le_refl _,by decide⟩
 ·refine⟨some a,len,cap,h0,fun i hi=>?_,hl,by simpa [maxLen] using hm⟩
  have hlm:len≤m:=by rw[hmm];split<;>omega
  have h5:Tryz.prog.cellsOf 3=1:=by kernel_rfl
  have each:∀ i,i < m→∃ z:Int,w.cell? (a.add i)=some (.int .i64 z):=by
   intro i hi;obtain⟨cs',h1,h2⟩:=hx i hi;rw[h5,Nat.mul_one] at h1;obtain⟨_,hlen,hcell⟩:=World.cells?_some h1;obtain⟨z,e1,_,e3⟩:=DataW.trod_int Tryz.underlying3 h2;have e2:=hcell 0 (by omega);rw[e1,Addr.add_zero'] at e2;exact⟨z,e2⟩
  have hs:a.spot=none:=by
   obtain⟨z,hz⟩:=each 0 (by omega);rw[Addr.add_zero'] at hz;exact rO hz
  obtain⟨g,o,sp⟩:=a;simp only at hs;subst hs;obtain⟨z,hc⟩:=each i (by omega);rw[Addr.add_lit] at hc;exact⟨g,o,z,rfl,fun W hb=>(hb.cell (p:=⟨g,o+i,none⟩) (World.block_lt_of_cell? _ _ hc)).trans hc⟩
theorem qo{w':World}{r:Reach}{b0:Nat}{v:Value}{d:DataW H}{p:List MemPlace}(hv:Value.okWide Tryz.prog w' r b0 26 v)(h:DataW.Trod enc Tryz.prog w base spare held 26 v d p):
  ∃ q n c n0 n1 n2 n3 pt nt ct,v= .agg #[.slice q n c,.int .i64 n0,.int .i64 n1,.int .i64 n2,.int .i64 n3,.slice pt nt ct]∧Rw5 w q n∧n≤9223372036854775807∧n≤c∧Ri w pt nt∧nt≤9223372036854775807:=by
 unfold Value.okWide at hv;rw[Tryz.underlying26] at hv;obtain⟨cs,rfl,hsz,_⟩:=hv;obtain⟨fuel,hf⟩:=h;obtain⟨y0,y1,y2,m,_,hlen,h0,h1,h2⟩:=Go.Deep.trod_struct3 Tryz.underlying26 hf;obtain⟨q,n,c,e0,hr,hn,hc⟩:=JK h0;have hz:=nR Tryz.underlying23 Tryz.underlying3 (by kernel_rfl) h1;obtain⟨pt,nt,ct,e2,hi,hm,hd⟩:=Ku h2;have c22:Tryz.prog.cellsOf 22=1:=by kernel_rfl
 have c23:Tryz.prog.cellsOf 23=4:=by kernel_rfl
 have c24:Tryz.prog.cellsOf 24=1:=by kernel_rfl
 have c26:Tryz.prog.cellsOf 26=6:=by kernel_rfl
 have L:(Value.agg cs).cells=cs:=rfl;rw[L] at e0 hz e2;have g0:cs[0]? =some (.slice q n c):=by
  have:=congrArg (·[0]?) e0;simpa [List.getElem?_take,List.getElem?_drop,c22] using this
 have g5:cs[5]? =some (.slice pt nt ct):=by
  have:=congrArg (·[0]?) e2;simpa [List.getElem?_take,List.getElem?_drop,c24] using this
 have gz:∀ j,j < 4→∃ z,cs[1+j]? =some (.int .i64 z):=fun j hj=>by
  obtain⟨z,hz⟩:=hz j hj;refine⟨z,?_⟩;simp only[List.getElem?_take,List.getElem?_drop,c23,hj,if_true] at hz;simpa using hz
 obtain⟨n0,g1⟩:=gz 0 (by decide);obtain⟨n1,g2⟩:=gz 1 (by decide);obtain⟨n2,g3⟩:=gz 2 (by decide);obtain⟨n3,g4⟩:=gz 3 (by decide);refine⟨q,n,c,n0,n1,n2,n3,pt,nt,ct,?_,hr,by omega,hn,hi,by omega⟩
 congr 1
 apply Array.ext_getElem?;intro i;by_cases h6:i < 6
 ·rcases(show i=0∨i=1∨i=2∨i=3∨i=4∨i=5 by omega) with rfl|rfl|rfl|rfl|rfl|rfl
  ·exact g0
  ·exact g1
  ·exact g2
  ·exact g3
  ·exact g4
  ·exact g5
 ·rw[Array.getElem?_eq_none (by omega),Array.getElem?_eq_none (by simp;omega)]
end
end Go.Proofs.YthkcloapiefggaaGreatDoor
