import Derived.Test.YthkcloapiefggaaGreatDoorQMac
import Derived.WalkKit
import Derived.ProofKit
import Derived.OpenShut
import Derived.Deep.Slices
namespace Go.Proofs.YthkcloapiefggaaGreatDoor
set_option linter.unusedVariables false
set_option linter.unusedSimpArgs false
set_option maxRecDepth 100000
set_option maxHeartbeats 1000000
open Go.ChangeShapes Go.WideShapes Go.ChangeAt Go.RowKit
section
open Go.Deep
variable {H:Type} {enc:TypeId × Value→H} {w w':World} {r:Reach} {b0 base:Nat} {spare:Nat→Bool} {held:Bool}
end
theorem wf_u8{x:Int}(h:(Lit.int .u8 x).wf=true):0≤x∧x < 256:=by
 have h':=h;unfold Lit.wf at h';simp only[Bool.and_eq_true,decide_eq_true_eq] at h';have e1:IntKind.u8.min=0:=rfl;have e2:IntKind.u8.max=255:=rfl;exact⟨by omega,by omega⟩
theorem wf_i64{x:Int}(h:(Lit.int .i64 x).wf=true):I64 x:=by
 have h':=h;unfold Lit.wf at h';simp only[Bool.and_eq_true,decide_eq_true_eq] at h';have e1:IntKind.i64.min= -9223372036854775808:=rfl;have e2:IntKind.i64.max=9223372036854775807:=rfl;exact⟨by omega,by omega⟩
end Go.Proofs.YthkcloapiefggaaGreatDoor
