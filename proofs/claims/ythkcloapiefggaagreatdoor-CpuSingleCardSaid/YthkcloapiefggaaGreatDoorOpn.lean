/- Arrays and slices of integers that came in, opened. -/
import Derived.Test.YthkcloapiefggaaGreatDoorMac
import Derived.WalkKit
import Derived.ProofKit
import Derived.OpenShut
import Derived.Deep.Slices
namespace Go.Proofs.YthkcloapiefggaaGreatDoor
set_option linter.unusedVariables false
set_option linter.unusedSimpArgs false
set_option maxRecDepth 100000
set_option maxHeartbeats 1000000
open Go.ChangeShapes Go.WideShapes Go.ChangeAt Go.RowKit
def intAt (v:Option Value):Int:=match v with | some (Value.int _ z)=>z | _=>0
theorem intAt_some (k:IntKind) (z:Int):intAt (some (.int k z))=z:=rfl
theorem open_arr {H:Type} {enc:TypeId × Value→H} {P:Program} {w w':World} {r:Reach} {b0 base:Nat} {spare:Nat→Bool} {held:Bool} {t e:TypeId} {n:Nat} {k:IntKind} {v:Value} {d:DataW H} {p:List MemPlace}
  (ht:P.underlying t=some (.array n e)) (he:P.underlying e=some (.int k)) (hce:P.cellsOf e=1) (hct:P.cellsOf t=n)
  (hv:Value.okWide P w r b0 t v) (h:DataW.Trod enc P w' base spare held t v d p):
  ∃ zs:List Int,v= .agg (zs.map (Value.int k)).toArray∧zs.length=n∧∀ z∈zs,(Lit.int k z).wf=true:=by
 unfold Value.okWide at hv
 rw[ht] at hv
 obtain⟨cs,rfl,hsz,_⟩:=hv
 obtain⟨fuel,hf⟩:=h
 obtain⟨xs,m,_,_,hlen,hn,hel⟩:=DataW.trod_array ht hf
 have hone:∀ i,i < n→∃ z,cs[i]? =some (.int k z)∧(Lit.int k z).wf=true:=by
  intro i hi
  have h1:=hel i hi
  rw[List.getElem?_eq_getElem (by omega)] at h1
  obtain⟨z,e1,_,e3⟩:=DataW.trod_int he h1
  rw[hce,Nat.mul_one] at e1
  refine⟨z,?_,e3⟩
  have e2:=congrArg (·[0]?) e1
  simp[Value.cells,List.getElem?_take,List.getElem?_drop] at e2
  exact e2
 refine⟨(List.range n).map (fun i=>intAt cs[i]?),?_,by simp,?_⟩
 ·congr 1
  apply Array.ext_getElem?
  intro i
  by_cases hi:i < n
  ·obtain⟨z,hz,_⟩:=hone i hi
   simp[hi,hz,intAt_some]
  ·rw[Array.getElem?_eq_none (by omega),Array.getElem?_eq_none (by simp;omega)]
 ·intro z hz
  obtain⟨i,hi,rfl⟩:=List.mem_map.1 hz
  obtain⟨z,hz,hw⟩:=hone i (List.mem_range.1 hi)
  simp only[hz,intAt_some]
  exact hw
section
open Go.Deep
variable {H:Type} {enc:TypeId × Value→H} {w w':World} {r:Reach} {b0 base:Nat} {spare:Nat→Bool} {held:Bool}
end
theorem wf_u16 {x:Int} (h:(Lit.int .u16 x).wf=true):U16 x:=by
 have h':=h
 unfold Lit.wf at h'
 simp only[Bool.and_eq_true,decide_eq_true_eq] at h'
 have e1:IntKind.u16.min=0:=rfl
 have e2:IntKind.u16.max=65535:=rfl
 exact⟨by omega,by omega⟩
theorem wf_u8 {x:Int} (h:(Lit.int .u8 x).wf=true):0≤x∧x < 256:=by
 have h':=h
 unfold Lit.wf at h'
 simp only[Bool.and_eq_true,decide_eq_true_eq] at h'
 have e1:IntKind.u8.min=0:=rfl
 have e2:IntKind.u8.max=255:=rfl
 exact⟨by omega,by omega⟩
theorem wf_i64 {x:Int} (h:(Lit.int .i64 x).wf=true):I64 x:=by
 have h':=h
 unfold Lit.wf at h'
 simp only[Bool.and_eq_true,decide_eq_true_eq] at h'
 have e1:IntKind.i64.min= -9223372036854775808:=rfl
 have e2:IntKind.i64.max=9223372036854775807:=rfl
 exact⟨by omega,by omega⟩
end Go.Proofs.YthkcloapiefggaaGreatDoor
