import Derived.Test.YthkcloapiefggaaGreatDoorQIsa
import Derived.Test.YthkcloapiefggaaGreatDoorCards
import Derived.Test.YthkcloapiefggaaGreatDoorTie
import Derived.ProofKit
import Derived.OpenShut
import Derived.ShutString
import Derived.ChangeOld
import Derived.LaidMore
import Derived.Stop.Joined
import Derived.SevenTiedAt
namespace Go.Proofs.YthkcloapiefggaaGreatDoor
set_option linter.unusedVariables false
set_option linter.unusedSimpArgs false
set_option maxRecDepth 100000
set_option maxHeartbeats 1000000
open Go.ChangeShapes Go.WideShapes Go.ChangeAt Go.RowKit
section
variable {H:Type} {enc:TypeId × Value→H} {P:Program} {w:World} {base:Nat} {spare:Nat→Bool} {held:Bool} {fuel:Nat}
theorem Ap{l:List Value}{n:Nat}(h:l.length=n)(i:Nat)(hi:¬ i < n):l[i]? =none:=by rw[List.getElem?_eq_none (by omega)]
theorem uu{t e:TypeId}{k:IntKind}{cs:List Value}{zs:List Int}{p:List MemPlace}(ht:P.underlying t=some (.array zs.length e))(he:P.underlying e=some (.int k))(hce:P.cellsOf e=1)(hct:P.cellsOf t=zs.length)
  (h:DataW.trod enc P w base spare held fuel t cs=some (.agg (zs.map fun z=> .lit (.int k z)),p)):cs=zs.map (Value.int k):=by
 obtain⟨xs,m,_,hx,hlen,hn,hel⟩:=DataW.trod_array ht h;simp only[Prod.mk.injEq,DataW.agg.injEq] at hx;apply List.ext_getElem?;intro i;by_cases hi:i < zs.length
 ·have h1:=hel i hi
  rw[List.getElem?_eq_getElem (by omega)] at h1;obtain⟨z,e1,e2,_⟩:=DataW.trod_int he h1;rw[hce,Nat.mul_one] at e1;have e3:=congrArg (·[0]?) e1;simp[List.getElem?_drop] at e3;have e4:(xs.map (·.1))[i]? =some (.lit (.int k z)):=by
   rw[List.getElem?_map,List.getElem?_eq_getElem (by omega),e2];rfl
  rw[← hx.1] at e4;rw[e3,List.getElem?_map,List.getElem?_eq_getElem hi];simp[hi] at e4;simp[e4]
 ·rw[Ap (hlen.trans hct) i hi,List.getElem?_map,List.getElem?_eq_none (by omega)];rfl
end
def fieldsD(r:Row):List Int:=[r.g0,r.g1,r.g2,r.g3]
def xh{H:Type}(r:Row):DataW H:= .agg [.lit (.int .u8 r.a),.lit (.int .u8 r.l),.lit (.int .u8 r.f),.lit (.int .u8 r.z),.agg ((fieldsD r).map fun z=> .lit (.int .u8 z)),.lit (.string r.sx.data.toList),.lit (.string r.op.data.toList)]
theorem DN:(Tryz.prog.fieldsOf 163).toList.map (fun f=>(f.type,f.offset))=[(5,0),(5,1),(5,2),(5,3),(161,4),(9,8),(9,9)]:=by kernel_rfl
theorem uV{l:List Value}{n:Nat}{v:Value}(h:(l.drop n).take 1=[v]):l[n]? =some v:=by
 have:=congrArg (·[0]?) h;simpa [List.getElem?_drop] using this
theorem vI{H:Type}{enc:TypeId × Value→H}{w:World}{base:Nat}{spare:Nat→Bool}{held:Bool}{fuel:Nat}{cs:List Value}{r:Row}{p:List MemPlace}
  (h:DataW.trod enc Tryz.prog w base spare held fuel 163 cs=some (xh r,p)):cs=xk r:=by
 obtain⟨xs,n,_,hx,hlen,hn,hel⟩:=DataW.trod_struct (fs:=Tryz.prog.fieldsOf 163) (by kernel_rfl) h;have hc65:Tryz.prog.cellsOf 163=10:=by kernel_rfl
 have hc5:Tryz.prog.cellsOf 5=1:=by kernel_rfl
 have hc9:Tryz.prog.cellsOf 9=1:=by kernel_rfl
 have hc63:Tryz.prog.cellsOf 161=4:=by kernel_rfl
 rw[hc65] at hlen;have hf:∀ (i:Nat) (t:TypeId) (o:Nat),([(5,0),(5,1),(5,2),(5,3),(161,4),(9,8),(9,9)]:List (TypeId × Nat))[i]? =some (t,o)→DataW.trod enc Tryz.prog w base spare held n t ((cs.drop o).take (Tryz.prog.cellsOf t))=xs[i]? :=by
  intro i t o hi;have hi':((Tryz.prog.fieldsOf 163).toList.map (fun f=>(f.type,f.offset)))[i]? =some (t,o):=by rw[DN];exact hi
  rw[List.getElem?_map,Option.map_eq_some_iff] at hi';obtain⟨f,hf,he⟩:=hi';simp only[Prod.mk.injEq] at he;obtain⟨rfl,rfl⟩:=he;exact hel i f (by simpa using hf)
 simp only[xh,Prod.mk.injEq,DataW.agg.injEq] at hx;have hm:=hx.1;have hl7:xs.length=7:=by have:=congrArg List.length hm;simpa using this.symm
 obtain⟨x0,x1,x2,x3,x4,x5,x6,rfl⟩:∃ x0 x1 x2 x3 x4 x5 x6,xs=[x0,x1,x2,x3,x4,x5,x6]:=by
  match xs,hl7 with
  | [x0,x1,x2,x3,x4,x5,x6],_=>exact⟨x0,x1,x2,x3,x4,x5,x6,rfl⟩
 simp only[List.map_cons,List.map_nil,List.cons.injEq,and_true] at hm;obtain⟨q0,q1,q2,q3,q4,q5,q6⟩:=hm;have hint:∀ (i o:Nat) (z:Int) (x:DataW H × List MemPlace),([(5,0),(5,1),(5,2),(5,3),(161,4),(9,8),(9,9)]:List (TypeId × Nat))[i]? =some (5,o)→[x0,x1,x2,x3,x4,x5,x6][i]? =some x→DataW.lit (.int .u8 z)=x.1→cs[o]? =some (.int .u8 z):=by
  intro i o z x h1 h2 h3;have h4:=hf i 5 o h1;rw[h2] at h4;obtain⟨z',e1,e2,_⟩:=DataW.trod_int Tryz.underlying5 h4;rw[hc5] at e1;rw[e2] at h3;simp only[DataW.lit.injEq,Lit.int.injEq,true_and] at h3;rw[h3];exact uV e1
 have hstr:∀ (i o:Nat) (s:ByteArray) (x:DataW H × List MemPlace),([(5,0),(5,1),(5,2),(5,3),(161,4),(9,8),(9,9)]:List (TypeId × Nat))[i]? =some (9,o)→[x0,x1,x2,x3,x4,x5,x6][i]? =some x→DataW.lit (.string s.data.toList)=x.1→cs[o]? =some (.string s):=by
  intro i o s x h1 h2 h3;have h4:=hf i 9 o h1;rw[h2] at h4;obtain⟨s',e1,e2,_⟩:=DataW.trod_string Tryz.underlying9 h4;rw[hc9] at e1;rw[e2] at h3;simp only[DataW.lit.injEq,Lit.string.injEq] at h3;rw[show s=s' from ByteArray.ext (Array.ext' h3)];exact uV e1
 have c0:=hint 0 0 _ _ rfl rfl q0;have c1:=hint 1 1 _ _ rfl rfl q1;have c2:=hint 2 2 _ _ rfl rfl q2;have c3:=hint 3 3 _ _ rfl rfl q3;have c8:=hstr 5 8 _ _ rfl rfl q5;have c9:=hstr 6 9 _ _ rfl rfl q6;have h4:=hf 4 161 4 rfl;have h4':DataW.trod enc Tryz.prog w base spare held n 161 ((cs.drop 4).take (Tryz.prog.cellsOf 161))=some (.agg ((fieldsD r).map fun z=> .lit (.int .u8 z)),x4.2):=by
  rw[h4];show some x4=_;rw[q4]
 have h5:=uu (zs:=fieldsD r) Tryz.underlying161 Tryz.underlying5 hc5 hc63 h4';rw[hc63] at h5;have hk:∀ j,j < 4→cs[4+j]? =((fieldsD r).map (Value.int .u8))[j]? :=by
  intro j hj;have:=congrArg (·[j]?) h5;simp only[List.getElem?_take,hj,if_true,List.getElem?_drop] at this;exact this
 have k0:=hk 0 (by omega);have k1:=hk 1 (by omega);have k2:=hk 2 (by omega);have k3:=hk 3 (by omega);obtain⟨v0,v1,v2,v3,v4,v5,v6,v7,v8,v9,rfl⟩:∃ v0 v1 v2 v3 v4 v5 v6 v7 v8 v9,cs=[v0,v1,v2,v3,v4,v5,v6,v7,v8,v9]:=by
  match cs,hlen with
  | [v0,v1,v2,v3,v4,v5,v6,v7,v8,v9],_=>exact⟨v0,v1,v2,v3,v4,v5,v6,v7,v8,v9,rfl⟩
 simp only[fieldsD,List.map_cons,List.map_nil] at k0 k1 k2 k3;simp at c0 c1 c2 c3 c8 c9 k0 k1 k2 k3;simp[xk,c0,c1,c2,c3,c8,c9,k0,k1,k2,k3]
theorem ui{H:Type}{enc:TypeId × Value→H}{w:World}{base:Nat}{spare:Nat→Bool}{held:Bool}{fuel:Nat}{cs:List Value}{p:List MemPlace}
  (h:DataW.trod enc Tryz.prog w base spare held fuel 177 cs=some (.agg (kX.map xh),p)):cs=kX.flatMap xk:=by
 have hl:kX.length=22:=rfl;obtain⟨xs,m,_,hx,hlen,hn,hel⟩:=DataW.trod_array Tryz.underlying177 h;have hc84:Tryz.prog.cellsOf 177=220:=by kernel_rfl
 have hc65:Tryz.prog.cellsOf 163=10:=by kernel_rfl
 simp only[Prod.mk.injEq,DataW.agg.injEq] at hx;have hrow:∀ i r,kX[i]? =some r→(cs.drop (i*10)).take 10=xk r:=by
  intro i r hr;have hi:i < 22:=by
   have:=(List.getElem?_eq_some_iff.1 hr).1;omega
  have h1:=hel i hi;rw[List.getElem?_eq_getElem (by omega),hc65] at h1;have e4:(kX.map (xh (H:=H)))[i]? =some (xh r):=by rw[List.getElem?_map,hr];rfl
  rw[hx.1,List.getElem?_map,List.getElem?_eq_getElem (by omega)] at e4;simp only[Option.map_some,Option.some.injEq] at e4;have h2:DataW.trod enc Tryz.prog w base spare held m 163 ((cs.drop (i*10)).take 10)=some (xh r,xs[i].2):=by
   rw[h1,← e4]
  exact vI h2
 rw[hc84] at hlen;have key:∀ (rs:List Row) (n:Nat) (cs:List Value),cs.length=rs.length*10→(∀ i r,rs[i]? =some r→(cs.drop (i*10)).take 10=xk r)→cs=rs.flatMap xk:=by
  intro rs
  induction rs with
  | nil=>intro n cs h1 _;simpa using h1
  | cons r rs ih=>
   intro n cs h1 h2;have h3:=h2 0 r rfl;simp only[Nat.zero_mul,List.drop_zero] at h3;rw[List.flatMap_cons,← h3]
   conv=>lhs;rw[← List.take_append_drop 10 cs]
   congr 1
   refine ih n _ (by simp at h1⊢;omega) fun i r' hr=>?_
   have:=h2 (i+1) r' hr;rw[List.drop_drop];rw[show 10+i*10=(i+1)*10 by omega];exact this
 exact key kX 0 cs (by rw[hlen,hl]) hrow
theorem uG{w:World}{name:String}{g:Nat}{cs:Array Value}(hg:Tryz.prog.globalNamed name=some g)(hv:w.var? Tryz.prog name=some cs):∃ t fr,w.heap[g]? =some (.cells cs t fr):=by
 unfold World.var? at hv;rw[hg] at hv;simp only[Option.bind_some] at hv
 split at hv
 ·rename_i cs' t fr hh
  cases hv;exact⟨_,_,hh⟩
 ·cases hv
theorem Ji{H:Type} :(Rows.laid_vellum_isa_formats:DataW H)= .agg (kX.map xh):=rfl
theorem wO{cs:Array Value}{l:List Value}(h:cs.toList=l):cs=l.toArray:=by rw[← h]
theorem lQ {W:World} (h:laidMetH Tryz.prog [("vellum/isa.formats",Rows.laid_vellum_isa_formats)] W):iq W:=by
 rw[MakeChecks.laidMetH_plain _ _ _ (by kernel_rfl)] at h;obtain⟨ps,⟨g3,t3,cs3,f3,p3,q3,hg3,ht3,hv3,hd3,r3,_⟩,_⟩:=h;have G3:Tryz.prog.globalNamed "vellum/isa.formats" =some 0:=by kernel_rfl
 have T3:(Tryz.prog.globals[0]?).map (·.type)=some 177:=by kernel_rfl
 obtain rfl:=Option.some.inj (G3.symm.trans hg3);obtain rfl:=Option.some.inj (T3.symm.trans ht3);rw[Ji] at hd3;obtain⟨t,fr,hb⟩:=uG G3 hv3;have hc:=ui hd3;exact⟨t,fr,by rw[hb,wO hc];rfl⟩
end Go.Proofs.YthkcloapiefggaaGreatDoor
