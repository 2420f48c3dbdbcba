import Derived.WalkKit
import Derived.Outline
import Derived.WalkLawsBesides
import Derived.WalkSpells
import Derived.Lib.Hide
import Derived.Laws.Rows
import Derived.Test.YthkcloapiefggaaGreatDoorRows
import Derived.Test.YthkcloapiefggaaGreatDoorQBas
import Derived.OneCell
import Derived.Laws.AppendOwn
import Derived.Laws.BytesString
import Derived.Laws.Cells
import Derived.BigRegion
import Derived.Laws.BitsAll
import Derived.Deep.RegionHeld3
import Derived.Deep.DeepCutAuto
import Derived.IntWalk
import Derived.Laws.EntriesVeiled
import Derived.Laws.Tables
import Derived.Laws.CopyOwn
namespace Go.Proofs.YthkcloapiefggaaGreatDoor
set_option linter.unusedVariables false
set_option linter.unusedSimpArgs false
open Go.ChangeShapes Go.WideShapes Go.RowKit
structure Row where
 a:Int
 l:Int
 f:Int
 z:Int
 g0:Int
 g1:Int
 g2:Int
 g3:Int
 sx:ByteArray
 op:ByteArray
def lM:Row:=⟨0,0,0,0,0,0,0,0,⟨#[]⟩,⟨#[]⟩⟩
def kX:List Row:=[
 ⟨0,5,0,1,0,0,0,0,⟨#[]⟩,⟨#[]⟩⟩,
 ⟨16,19,0,2,1,0,0,0,⟨#[]⟩,⟨#[68]⟩⟩,
 ⟨20,21,0,2,5,0,0,0,⟨#[]⟩,⟨#[110]⟩⟩,
 ⟨32,46,0,2,3,0,0,0,⟨#[]⟩,⟨#[68,44,32,83]⟩⟩,
 ⟨32,46,16,3,1,4,0,0,⟨#[46,98]⟩,⟨#[68,44,32,105]⟩⟩,
 ⟨32,46,32,4,1,6,0,0,⟨#[46,119]⟩,⟨#[68,44,32,105]⟩⟩,
 ⟨80,83,0,3,3,4,0,0,⟨#[]⟩,⟨#[68,44,32,91,83,111,93]⟩⟩,
 ⟨80,83,8,4,3,6,0,0,⟨#[46,119]⟩,⟨#[68,44,32,91,83,111,93]⟩⟩,
 ⟨84,87,0,4,1,6,0,0,⟨#[]⟩,⟨#[68,44,32,91,97,93]⟩⟩,
 ⟨96,109,0,2,4,0,0,0,⟨#[]⟩,⟨#[116]⟩⟩,
 ⟨96,109,16,3,6,0,0,0,⟨#[46,119]⟩,⟨#[116]⟩⟩,
 ⟨128,128,0,2,4,0,0,0,⟨#[]⟩,⟨#[116]⟩⟩,
 ⟨129,130,0,3,6,0,0,0,⟨#[]⟩,⟨#[116]⟩⟩,
 ⟨131,132,0,4,8,6,0,0,⟨#[]⟩,⟨#[98,58,97]⟩⟩,
 ⟨133,133,0,7,1,9,6,7,⟨#[]⟩,⟨#[68,44,32,98,44,32,116,44,32,120]⟩⟩,
 ⟨134,134,0,4,1,6,0,0,⟨#[]⟩,⟨#[68,44,32,97]⟩⟩,
 ⟨144,144,0,3,1,5,0,0,⟨#[]⟩,⟨#[68,44,32,110]⟩⟩,
 ⟨145,145,0,3,1,5,0,0,⟨#[]⟩,⟨#[110,44,32,68]⟩⟩,
 ⟨146,147,0,5,3,8,6,0,⟨#[]⟩,⟨#[68,44,32,98,58,91,83,43,97,93]⟩⟩,
 ⟨150,150,0,6,2,6,7,0,⟨#[]⟩,⟨#[91,83,111,93,44,32,121]⟩⟩,
 ⟨160,161,0,3,1,5,0,0,⟨#[]⟩,⟨#[68,44,32,110]⟩⟩,
 ⟨162,163,0,3,1,4,0,0,⟨#[]⟩,⟨#[68,44,32,105]⟩⟩]
def R(k:Nat):Row:=kX.getD k lM
def xk(r:Row):List Value:=[.int .u8 r.a,.int .u8 r.l,.int .u8 r.f,.int .u8 r.z,.int .u8 r.g0,.int .u8 r.g1,.int .u8 r.g2,.int .u8 r.g3,.string r.sx,.string r.op]
def rq(r:Row):Value:= .agg #[.int .u8 r.a,.int .u8 r.l,.int .u8 r.f,.int .u8 r.z,.int .u8 r.g0,.int .u8 r.g1,.int .u8 r.g2,.int .u8 r.g3,.string r.sx,.string r.op]
def rowA(r:Row):Array Value:=#[.int .u8 r.a,.int .u8 r.l,.int .u8 r.f,.int .u8 r.z,.int .u8 r.g0,.int .u8 r.g1,.int .u8 r.g2,.int .u8 r.g3,.string r.sx,.string r.op]
def ny:Array Value:=(kX.flatMap xk).toArray
def iq(w:World):Prop:=∃ t fr,w.heap[0]? =some (.cells ny t fr)
theorem bF{B:Nat}{w w':World}(hB:0 < B)(h:iq w)(hb:Below B w w'):iq w':=by
 obtain⟨t,fr,h⟩:=h;exact⟨t,fr,by rw[hb.block 0 hB];exact h⟩
theorem ik{k:Nat}(h:k < 22):k=0∨k=1∨k=2∨k=3∨k=4∨k=5∨k=6∨k=7∨k=8∨k=9∨k=10∨k=11∨k=12∨k=13∨k=14∨k=15∨k=16∨k=17∨k=18∨k=19∨k=20∨k=21:=by omega
theorem EQ(k:Nat)(h:k < 22):ny[k*10]? =some (.int .u8 (R k).a)∧ny[k*10+1]? =some (.int .u8 (R k).l)∧ny[k*10+2]? =some (.int .u8 (R k).f)∧ny[k*10+3]? =some (.int .u8 (R k).z)
  ∧ny[k*10+4]? =some (.int .u8 (R k).g0)∧ny[k*10+5]? =some (.int .u8 (R k).g1)∧ny[k*10+6]? =some (.int .u8 (R k).g2)∧ny[k*10+7]? =some (.int .u8 (R k).g3)
  ∧ny[k*10+8]? =some (.string (R k).sx)∧ny[k*10+9]? =some (.string (R k).op):=by
 rcases ik h with rfl|rfl|rfl|rfl|rfl|rfl|rfl|rfl|rfl|rfl|rfl|rfl|rfl|rfl|rfl|rfl|rfl|rfl|rfl|rfl|rfl|rfl<;>(refine⟨?_,?_,?_,?_,?_,?_,?_,?_,?_,?_⟩<;>kernel_rfl)
def nU(op:Int)(k:Nat):Bool:=decide ((R k).a≤op-(R k).f∧op-(R k).f≤(R k).l)
def lq(op:Int):Option Nat:=(List.range 22).find? (nU op)
def row(op:Int):Row:=match lq op with | some k=>R k | none=>lM
def known(op:Int):Bool:=(lq op).isSome
theorem iT(p:Nat→Bool)(n k:Nat)(hk:k < n)(hh:p k=true)(hno:∀ j,j < k→p j=false):(List.range n).find? p=some k:=by
 rw[List.find?_eq_some_iff_getElem];exact⟨hh,k,by simpa using hk,by simp,fun j hj=>by simpa using hno j hj⟩
theorem Kt(op:Int)(k:Nat)(hk:k < 22)(hh:nU op k=true)(hno:∀ j,j < k→nU op j=false):row op=R k∧known op=true:=by
 unfold row known lq;rw[iT _ 22 k hk hh hno];exact⟨rfl,rfl⟩
theorem yV(op:Int)(hno:∀ j,j < 22→nU op j=false):row op=lM∧known op=false:=by
 have h:lq op=none:=by
  unfold lq;rw[List.find?_eq_none];intro j hj;simpa using hno j (List.mem_range.1 hj)
 unfold row known;rw[h];exact⟨rfl,rfl⟩
theorem JA(k:Nat)(h:k < 22):0≤(R k).a∧(R k).a < 256∧0≤(R k).l∧(R k).l < 256∧0≤(R k).f∧(R k).f < 256∧0≤(R k).z∧(R k).z < 8:=by
 rcases ik h with rfl|rfl|rfl|rfl|rfl|rfl|rfl|rfl|rfl|rfl|rfl|rfl|rfl|rfl|rfl|rfl|rfl|rfl|rfl|rfl|rfl|rfl<;>decide
theorem ww{op:Int}{k:Nat}(h:∀ j,j < k→nU op j=false)(he:nU op k=false):∀ j,j < k+1→nU op j=false:=by
 intro j hj
 rcases(show j < k∨j=k by omega) with c|rfl
 ·exact h j c
 ·exact he
theorem zo{w:World}{t:TypeId}{fr:Nat × Nat}(hg:w.heap[0]? =some (.cells ny t fr))(j:Nat):w.cell? ⟨0,j,none⟩=ny[j]? :=by
 simp[World.cell?,hg]
theorem DC(op:Int)(k:Nat)(o0: -9223372036854775808≤op)(o1:op≤9223372036854775807)(hk:k < 22):
  nU op k=(decide ((R k).a≤wrap64 (op-(R k).f)) && decide (wrap64 (op-(R k).f)≤(R k).l)):=by
 obtain⟨b0,b1,b2,b3,b4,b5,b6,b7⟩:=JA k hk;unfold nU;generalize (R k).a=a at*;generalize (R k).l=l at*;generalize (R k).f=f at*;rw[Bool.eq_iff_iff];simp only[Bool.and_eq_true,decide_eq_true_eq];unfold wrap64;omega
theorem wE(op:Int)(w:World)(o0: -9223372036854775808≤op)(o1:op≤9223372036854775807)(ht:iq w):
  Calls Tryz.prog 135 #[.int .i64 op] w fun e w'=>e= .returned (.tuple #[rq (row op),.bool (known op)])∧w.alloc (.cells (rowA (row op)) 163)=w':=by
 obtain⟨tt,fr,hg⟩:=ht;have hz:0 < w.heap.size:=by
  rcases Nat.eq_zero_or_pos w.heap.size with h' | h'
  ·rw[Array.getElem?_eq_none (by omega)] at hg;cases hg
  ·exact h'
 have HG:=Nc (zo hg);clear hg;go_enter Tryz.func135,Tryz.ntmps135
 go_wp2_with fail
 go_loop [4,5,6] (fun _ _ i=>∃ k:Nat,k≤22∧i= .int .i64 k∧Hid (∀ j,j < k→nU op j=false)) (fun _ _ i=>(22-intOf i).toNat)
 case atStart=>exact⟨0,by omega,rfl,Nc (fun j h=>absurd h (by omega))⟩
 case round=>
  obtain⟨k,hk,rfl,hall⟩:=hrel;by_cases hlt:k < 22
  ·obtain⟨b0,b1,b2,b3,b4,b5,b6,b7⟩:=JA k hlt
   obtain⟨t0,t1,t2,t3,t4,t5,t6,t7,t8,t9⟩:=EQ k hlt;have c0:=(HG.out _).trans t0;have c1:=(HG.out _).trans t1;have c2:=(HG.out _).trans t2;have c3:=(HG.out _).trans t3;have c4:=(HG.out _).trans t4;have c5:=(HG.out _).trans t5;have c6:=(HG.out _).trans t6;have c7:=(HG.out _).trans t7;have c8:=(HG.out _).trans t8;have c9:=(HG.out _).trans t9;clear t0 t1 t2 t3 t4 t5 t6 t7 t8 t9;have HB:=Nc (DC op k o0 o1 hlt);obtain⟨b,hb⟩:∃ b,wrap64 (op-(R k).f)=b:=⟨_,rfl⟩;rw[hb] at HB;by_cases h1:(R k).a≤b
   ·by_cases h2:b≤(R k).l
    ·have HH:=Nc (Kt op k hlt (by rw[HB.out];simp[h1,h2]) hall.out)
     go_wp2_with fail
     exact bodyPost_ret (v:= .tuple #[rq (R k),.bool true]) (by simp[results,Tryz.results135,go_sem,rq]) rfl ⟨by rw[HH.out.1,HH.out.2],by rw[HH.out.1];rfl⟩
    ·have HH:=Nc (ww hall.out (by rw[HB.out];simp[h2]))
     go_wp2_with fail
     go_round
     case rel=>exact⟨k+1,by omega,by go_num,HH⟩
     case measure=>simp[intOf];omega
   ·have HH:=Nc (ww hall.out (by rw[HB.out];simp[h1]))
    go_wp2_with fail
    go_round
    case rel=>exact⟨k+1,by omega,by go_num,HH⟩
    case measure=>simp[intOf];omega
  ·have HH:=Nc (yV op (fun j hj=>hall.out j (by omega)))
   go_wp2_with fail
   exact bodyPost_ret (v:= .tuple #[rq lM,.bool false]) (by simp[results,Tryz.results135,go_sem,rq,lM]) rfl ⟨by rw[HH.out.1,HH.out.2],by rw[HH.out.1];rfl⟩
theorem mQ(op:Int)(w:World)(o0: -9223372036854775808≤op)(o1:op≤9223372036854775807)(ht:iq w):
  Calls Tryz.prog 135 #[.int .i64 op] w fun e w'=>e= .returned (.tuple #[rq (row op),.bool (known op)])∧Below w.heap.size w w':=
 (wE op w o0 o1 ht).mono fun _ _ ⟨he,hw⟩=>⟨he,hw▸(Below.refl _ _).alloc (Nat.le_refl _) _⟩
def aK(l:List Int):List Value:=l.map (Value.int .u8)
def bD(l:List Int):ByteArray:=l.foldl (fun r n=>r.push (UInt8.ofNat n.toNat)) ByteArray.empty
theorem info5:(Tryz.prog.info? 5).map (fun i=>(i.zero,i.size,i.bytes))=some (some (.int .u8 0),1,1):=by kernel_rfl
structure Ins where
 op:Int
 d:Int
 s:Int
 im:Int
 ax:Int
 bk:Int
 sz:Int
deriving DecidableEq
def dN(i:Ins):Value:= .agg #[.int .i64 i.op,.int .i64 i.d,.int .i64 i.s,.int .u16 i.im,.int .u16 i.ax,.int .i64 i.bk,.int .i64 i.sz]
def gJ(i:Ins):Array Value:=#[.int .i64 i.op,.int .i64 i.d,.int .i64 i.s,.int .u16 i.im,.int .u16 i.ax,.int .i64 i.bk,.int .i64 i.sz]
structure Ins.Ok(i:Ins):Prop where
 o0: -9223372036854775808≤i.op
 o1:i.op≤9223372036854775807
 d0: -9223372036854775808≤i.d
 d1:i.d≤9223372036854775807
 s0: -9223372036854775808≤i.s
 s1:i.s≤9223372036854775807
 m0:0≤i.im
 m1:i.im < 65536
 a0:0≤i.ax
 a1:i.ax < 65536
 b0: -9223372036854775808≤i.bk
 b1:i.bk≤9223372036854775807
 z0: -9223372036854775808≤i.sz
 z1:i.sz≤9223372036854775807
def fb(g:Int)(i:Ins):List Int:=
 if g=1 then [i.d%256] else if g=2 then [i.s%256] else if g=3 then [(16*i.d+i.s)%256] else if g=4 then [i.im%256] else if g=5 then [i.im%256]
 else if g=6 then [i.im%256,i.im/256] else if g=7 then [i.ax%256,i.ax/256] else if g=8 then [i.bk%256] else if g=9 then [i.bk%256] else []
def gk(r:Row)(k:Nat):Int:=if k=0 then r.g0 else if k=1 then r.g1 else if k=2 then r.g2 else r.g3
def wl(r:Row)(i:Ins):Nat→List Int
 | 0=>[i.op%256]
 | k+1=>wl r i k++fb (gk r k) i
def ai(r:Row)(i:Ins):List Int:=wl r i 4
theorem Je(g:Int)(i:Ins):(fb g i).length≤2:=by unfold fb;(repeat' split)<;>simp
theorem Ba(r:Row)(i:Ins):∀ k,(wl r i k).length≤2*k+1
 | 0=>by simp[wl]
 | k+1=>by have:=Ba r i k;have:=Je (gk r k) i;simp[wl];omega
theorem DF(r:Row)(k:Nat)(hk:k < 4)(w:World):(Instr.index 161 (.agg #[.int .u8 r.g0,.int .u8 r.g1,.int .u8 r.g2,.int .u8 r.g3]) (.int .i64 k)).run Tryz.prog w= .ok (.int .u8 (gk r k)) w:=by
 rcases(show k=0∨k=1∨k=2∨k=3 by omega) with rfl|rfl|rfl|rfl<;>kernel_rfl
def ba(s:ByteArray)(k:Nat):Int:=((s.data.toList[k]?).getD 0).toNat
theorem bG(s:ByteArray)(k:Nat)(h:k < s.size):(s[k].toNat:Int)=ba s k:=by
 unfold ba;have h':k < s.data.toList.length:=h;rw[List.getElem?_eq_getElem h'];rfl
theorem ay(s:ByteArray)(k:Nat):0≤ba s k∧ba s k < 256:=by
 unfold ba;have:=((s.data.toList[k]?).getD 0).toNat_lt;omega
theorem uz(A C k:Nat)(s:ByteArray)(w:World)(hk:k < s.size)(hs:s.size≤maxLen)(hA:w.cell? ⟨A,0,none⟩=some (.int .i64 k))(fA:w.frozen? ⟨A,0,none⟩=false)(hC:w.cell? ⟨C,0,none⟩=some (.string s))(hne:A≠C):
  Calls Tryz.prog 160 #[.pointer (some ⟨A,0,none⟩),.pointer (some ⟨C,0,none⟩)] w fun e w'=>e= .returned (.int .u8 (ba s k))∧w.setCell ⟨A,0,none⟩ (.int .i64 ((k:Int)+1))=w':=by
 unfold maxLen at hs;have HB:=Nc (bG s k hk);go_enter Tryz.func160,Tryz.ntmps160
 go_wp2_with fail
 go_ret
 exact⟨eX HB.out,rfl⟩
def uA(A C:Nat):Value:= .func (.func 160) #[] #[.pointer (some ⟨A,0,none⟩),.pointer (some ⟨C,0,none⟩)]
theorem IQ(x y:Nat)(hx:x < 256):(x ||| (y*256))=x+256*y:=by
 have:=Nat.shiftLeft_add_eq_or_of_lt (b:=x) (i:=8) hx y;rw[Nat.shiftLeft_eq] at this;have e:y*256=y*2 ^ 8:=congrArg (y* ·) (by decide:(256:Nat)=2 ^ 8);rw[Nat.or_comm,e,← this,← e,Nat.add_comm,Nat.mul_comm]
theorem mD(a b:Int)(a0:0≤a)(a1:a < 256)(b0:0≤b)(b1:b < 256):bits .or .u16 a (b*256)=a+256*b:=by
 rw[u16_or a (b*256) a0 (by omega) (by omega) (by omega)];obtain⟨x,rfl⟩:=Int.eq_ofNat_of_zero_le a0;obtain⟨y,rfl⟩:=Int.eq_ofNat_of_zero_le b0;have e:((y:Int)*256).toNat=y*256:=by omega
 rw[e];simp only[Int.toNat_natCast];rw[IQ x y (by omega)];omega
theorem KI(F A C k:Nat)(s:ByteArray)(w:World)(hk:k+1 < s.size)(hs:s.size≤maxLen)(hA:w.cell? ⟨A,0,none⟩=some (.int .i64 k))(fA:w.frozen? ⟨A,0,none⟩=false)(hC:w.cell? ⟨C,0,none⟩=some (.string s))(hF:w.cell? ⟨F,0,none⟩=some (uA A C))(hne:A≠C)(hnf:A≠F):
  Calls Tryz.prog 161 #[.pointer (some ⟨F,0,none⟩)] w fun e w'=>e= .returned (.int .u16 (ba s k+256*ba s (k+1)))∧(w.setCell ⟨A,0,none⟩ (.int .i64 ((k:Int)+1))).setCell ⟨A,0,none⟩ (.int .i64 ((k:Int)+1+1))=w':=by
 have hb:=ay s k;have hb':=ay s (k+1);unfold uA at hF;have HS:=Nc hs;have ho:=mD _ _ hb.1 hb.2 hb'.1 hb'.2;clear hs;go_enter Tryz.func161,Tryz.ntmps161
 go_wp2_with fail
 refine(uz A C k s _ (by omega) HS.out hA fA hC hne).mono ?_;rintro e w' ⟨rfl,rfl⟩;go_wp2_with fail
 refine(uz A C (k+1) s _ (by omega) HS.out (by go_simp) (by go_simp) (by go_simp) hne).mono ?_;rintro e w' ⟨rfl,rfl⟩;go_wp2_with fail
 go_ret
 exact⟨rfl,rfl⟩
structure RS where
 d:Int
 s:Int
 im:Int
 ax:Int
 bk:Int
 k:Nat
 ok:Bool
def dW(b:Int):Int:=if b < 128 then b else 65280+b
def aN(c:ByteArray)(g:Int)(x:RS):RS:=
 if g=1 then {x with d:=ba c x.k,k:=x.k+1} else if g=2 then {x with s:=ba c x.k,k:=x.k+1} else if g=3 then {x with d:=ba c x.k/16,s:=ba c x.k%16,k:=x.k+1}
 else if g=4 then {x with im:=dW (ba c x.k),k:=x.k+1} else if g=5 then {x with im:=ba c x.k,k:=x.k+1} else if g=6 then {x with im:=ba c x.k+256*ba c (x.k+1),k:=x.k+1+1}
 else if g=7 then {x with ax:=ba c x.k+256*ba c (x.k+1),k:=x.k+1+1} else if g=8 then {x with bk:=ba c x.k,k:=x.k+1,ok:=decide (ba c x.k < 64)}
 else if g=9 then {x with bk:=ba c x.k,k:=x.k+1,ok:=decide (0 < ba c x.k)} else x
def rs(r:Row)(c:ByteArray):Nat→RS
 | 0=>⟨0,0,0,0,0,1,true⟩
 | n+1=>aN c (gk r n) (rs r c n)
def aI(r:Row)(c:ByteArray):Ins:=⟨ba c 0,(rs r c 4).d,(rs r c 4).s,(rs r c 4).im,(rs r c 4).ax,(rs r c 4).bk,r.z⟩
def readB(r:Row)(c:ByteArray):Bool:=(rs r c 4).ok && decide ((rs r c 4).d < 8) && decide ((rs r c 4).s < 8)
def fl(g:Int):Nat:=if g=1 then 1 else if g=2 then 1 else if g=3 then 1 else if g=4 then 1 else if g=5 then 1 else if g=6 then 2 else if g=7 then 2 else if g=8 then 1 else if g=9 then 1 else 0
def jw(r:Row):Nat→Nat
 | 0=>1
 | n+1=>jw r n+fl (gk r n)
theorem Fh(c:ByteArray)(g:Int)(x:RS):(aN c g x).k=x.k+fl g:=by
 unfold aN fl;(repeat' split)<;>simp_all
theorem Iz(r:Row)(c:ByteArray):∀ n,(rs r c n).k=jw r n
 | 0=>rfl
 | n+1=>by rw[show rs r c (n+1)=aN c (gk r n) (rs r c n) from rfl,Fh,Iz r c n];rfl
theorem uB(r:Row):∀ n,n≤4→jw r n≤jw r 4:=by
 intro n hn;have h:∀ n,jw r n≤jw r (n+1):=fun n=>Nat.le_add_right _ _
 rcases(show n=0∨n=1∨n=2∨n=3∨n=4 by omega) with rfl|rfl|rfl|rfl|rfl
 ·exact Nat.le_trans (Nat.le_trans (h 0) (h 1)) (Nat.le_trans (h 2) (h 3))
 ·exact Nat.le_trans (h 1) (Nat.le_trans (h 2) (h 3))
 ·exact Nat.le_trans (h 2) (h 3)
 ·exact h 3
 ·exact Nat.le_refl _
structure St(N:Nat)(op z:Int)(c:ByteArray)(x:RS)(w:World):Prop where
 hc:w.heap[N+1]? =some (.cells #[.string c] 9 (0,0))
 hr:w.heap[N+1+1]? =some (.cells #[.int .i64 0,.int .i64 0,.int .i64 0,.int .u16 0,.int .u16 0,.int .i64 0,.int .i64 0] 58 (0,0))
 hi:w.heap[N+1+1+1]? =some (.cells #[.int .i64 op,.int .i64 x.d,.int .i64 x.s,.int .u16 x.im,.int .u16 x.ax,.int .i64 x.bk,.int .i64 z] 58 (0,0))
 ha:w.heap[N+1+1+1+1]? =some (.cells #[.int .i64 x.k] 3 (0,0))
 hf:w.heap[N+1+1+1+1+1]? =some (.cells #[uA (N+1+1+1+1) (N+1)] 178 (0,0))
structure Rd1(w:World)(r:Row)(c:ByteArray)(W:World):Prop where
 hb:Below w.heap.size w W
 hf:W.heap[w.heap.size]? =some (.cells (rowA r) 163 (0,0))
 hc:W.heap[w.heap.size+1]? =some (.cells #[.string c] 9 (0,0))
 hr:W.heap[w.heap.size+1+1]? =some (.cells #[.int .i64 0,.int .i64 0,.int .i64 0,.int .u16 0,.int .u16 0,.int .i64 0,.int .i64 0] 58 (0,0))
 hi:W.heap[w.heap.size+1+1+1]? =some (.cells #[.int .i64 (ba c 0),.int .i64 0,.int .i64 0,.int .u16 0,.int .u16 0,.int .i64 0,.int .i64 r.z] 58 (0,0))
 hz:W.heap.size=w.heap.size+1+1+1+1
theorem BK{w W:World}{r:Row}{c:ByteArray}(h:((w.alloc (.cells (rowA r) 163)).alloc (.cells #[.string c] 9)).alloc (.cells #[.int .i64 0,.int .i64 0,.int .i64 0,.int .u16 0,.int .u16 0,.int .i64 0,.int .i64 0] 58)=W):
  W.cell? ⟨w.heap.size,3,none⟩=some (.int .u8 r.z)∧W.cell? ⟨w.heap.size+1,0,none⟩=some (.string c)∧W.heap.size=w.heap.size+1+1+1∧
  Hid (Below w.heap.size w W∧W.heap[w.heap.size]? =some (.cells (rowA r) 163 (0,0))∧W.heap[w.heap.size+1]? =some (.cells #[.string c] 9 (0,0))∧W.heap[w.heap.size+1+1]? =some (.cells #[.int .i64 0,.int .i64 0,.int .i64 0,.int .u16 0,.int .u16 0,.int .i64 0,.int .i64 0] 58 (0,0))):=by
 subst h;have h0:=aj (w.alloc (.cells (rowA r) 163)) (.cells #[.string c] 9) _ (heap_alloc_new w (.cells (rowA r) 163));have h0':=aj _ (.cells #[.int .i64 0,.int .i64 0,.int .i64 0,.int .u16 0,.int .u16 0,.int .i64 0,.int .i64 0] 58) _ h0;have h1:=aj _ (.cells #[.int .i64 0,.int .i64 0,.int .i64 0,.int .u16 0,.int .u16 0,.int .i64 0,.int .i64 0] 58) _ (heap_alloc_new (w.alloc (.cells (rowA r) 163)) (.cells #[.string c] 9));have h2:=heap_alloc_new ((w.alloc (.cells (rowA r) 163)).alloc (.cells #[.string c] 9)) (.cells #[.int .i64 0,.int .i64 0,.int .i64 0,.int .u16 0,.int .u16 0,.int .i64 0,.int .i64 0] 58);simp only[World.size_alloc] at h1 h2;exact⟨by unfold World.cell?;rw[h0'];rfl,by unfold World.cell?;rw[h1];rfl,by simp,Nc ⟨(((Below.refl _ _).alloc (Nat.le_refl _) _).alloc (by simp) _).alloc (by simp;omega) _,h0',h1,h2⟩⟩
theorem II{w W:World}{r:Row}{c:ByteArray}(hz:W.heap.size=w.heap.size+1+1+1)
  (h:Below w.heap.size w W∧W.heap[w.heap.size]? =some (.cells (rowA r) 163 (0,0))∧W.heap[w.heap.size+1]? =some (.cells #[.string c] 9 (0,0))∧W.heap[w.heap.size+1+1]? =some (.cells #[.int .i64 0,.int .i64 0,.int .i64 0,.int .u16 0,.int .u16 0,.int .i64 0,.int .i64 0] 58 (0,0))):
  Rd1 w r c (W.alloc (.cells #[.int .i64 (ba c 0),.int .i64 0,.int .i64 0,.int .u16 0,.int .u16 0,.int .i64 0,.int .i64 r.z] 58)).drew:=by
 obtain⟨h1,h2,h3,h4⟩:=h;refine⟨(h1.alloc (by omega) _).drew,aj _ _ _ h2,aj _ _ _ h3,aj _ _ _ h4,?_,by simp[hz]⟩;have:=heap_alloc_new W (.cells #[.int .i64 (ba c 0),.int .i64 0,.int .i64 0,.int .u16 0,.int .u16 0,.int .i64 0,.int .i64 r.z] 58);rw[hz] at this;exact this
theorem zl(b:Int)(h0:0≤b)(h1:b < 256):IntKind.u16.wrap (IntKind.i8.wrap b)=dW b:=by
 have e:IntKind.i8.wrap b=(b+128)%256-128:=by simp[IntKind.wrap,IntKind.bits,IntKind.signed];omega
 rw[e,IntKind.wrap_u16];unfold dW;split<;>omega
theorem pY(c:ByteArray)(q:Int)(x:RS)(h:¬ (q=1∨q=2∨q=3∨q=4∨q=5∨q=6∨q=7∨q=8∨q=9)):aN c q x=x:=by
 simp only[not_or] at h;simp[aN,h]
section
variable {N:Nat} {op z:Int} {c:ByteArray} {x:RS} {w:World}
theorem St.tick(h:St N op z c x w)(v:Int)(hv:v=((x.k+1:Nat):Int)):St N op z c {x with k:=x.k+1} (w.setCell ⟨N+1+1+1+1,0,none⟩ (.int .i64 v)):=by
 subst hv;exact⟨by rw[heap_setCell_other _ _ _ _ (by simp)];exact h.hc,by rw[heap_setCell_other _ _ _ _ (by simp;try omega)];exact h.hr,by rw[heap_setCell_other _ _ _ _ (by simp)];exact h.hi,heap_setCell_same _ _ _ _ _ _ h.ha,by rw[heap_setCell_other _ _ _ _ (by simp)];exact h.hf⟩
theorem St.set(h:St N op z c x w)(x':RS)(j:Nat)(v:Value)(hx: #[.int .i64 op,.int .i64 x'.d,.int .i64 x'.s,.int .u16 x'.im,.int .u16 x'.ax,.int .i64 x'.bk,.int .i64 z]=(#[.int .i64 op,.int .i64 x.d,.int .i64 x.s,.int .u16 x.im,.int .u16 x.ax,.int .i64 x.bk,.int .i64 z]:Array Value).setIfInBounds j v)(hk:x'.k=x.k):
  St N op z c x' (w.setCell ⟨N+1+1+1,j,none⟩ v):=
 ⟨by rw[heap_setCell_other _ _ _ _ (by simp;try omega)];exact h.hc,by rw[heap_setCell_other _ _ _ _ (by simp;try omega)];exact h.hr,by rw[hx];exact heap_setCell_same _ _ _ _ _ _ h.hi,by rw[heap_setCell_other _ _ _ _ (by simp;try omega),hk];exact h.ha,by rw[heap_setCell_other _ _ _ _ (by simp;try omega)];exact h.hf⟩
theorem St.JJ(h:St N op z c x w)(v:Int):St N op z c {x with d:=v} (w.setCell ⟨N+1+1+1,1,none⟩ (.int .i64 v)):=h.set _ 1 _ rfl rfl
theorem St.JI(h:St N op z c x w)(v:Int):St N op z c {x with s:=v} (w.setCell ⟨N+1+1+1,2,none⟩ (.int .i64 v)):=h.set _ 2 _ rfl rfl
theorem St.Iu(h:St N op z c x w)(v:Int):St N op z c {x with im:=v} (w.setCell ⟨N+1+1+1,3,none⟩ (.int .u16 v)):=h.set _ 3 _ rfl rfl
theorem St.LJ(h:St N op z c x w)(v:Int):St N op z c {x with ax:=v} (w.setCell ⟨N+1+1+1,4,none⟩ (.int .u16 v)):=h.set _ 4 _ rfl rfl
theorem St.setB(h:St N op z c x w)(v:Int):St N op z c {x with bk:=v} (w.setCell ⟨N+1+1+1,5,none⟩ (.int .i64 v)):=h.set _ 5 _ rfl rfl
theorem St.GZ(h:St N op z c x w)(v:Bool):St N op z c {x with ok:=v} w:=⟨h.hc,h.hr,h.hi,h.ha,h.hf⟩
theorem dm{w:World}{g j:Nat}{cs:Array Value}{t:TypeId}(h:w.heap[g]? =some (.cells cs t (0,0))):w.frozen? ⟨g,j,none⟩=false:=frozen_of_row w g j cs t h
theorem vg(h:St N op z c x w):w.cell? ⟨N+1+1+1+1,0,none⟩=some (.int .i64 x.k)∧w.frozen? ⟨N+1+1+1+1,0,none⟩=false∧w.cell? ⟨N+1,0,none⟩=some (.string c)∧w.cell? ⟨N+1+1+1+1+1,0,none⟩=some (uA (N+1+1+1+1) (N+1))
  ∧w.cell? ⟨N+1+1+1,1,none⟩=some (.int .i64 x.d)∧w.cell? ⟨N+1+1+1,2,none⟩=some (.int .i64 x.s)∧w.cell? ⟨N+1+1+1,3,none⟩=some (.int .u16 x.im)∧w.cell? ⟨N+1+1+1,4,none⟩=some (.int .u16 x.ax)∧w.cell? ⟨N+1+1+1,5,none⟩=some (.int .i64 x.bk)
  ∧w.frozen? ⟨N+1+1+1,1,none⟩=false∧w.frozen? ⟨N+1+1+1,2,none⟩=false∧w.frozen? ⟨N+1+1+1,3,none⟩=false∧w.frozen? ⟨N+1+1+1,4,none⟩=false∧w.frozen? ⟨N+1+1+1,5,none⟩=false:=by
 refine⟨cell_of_one h.ha,free_of_one h.ha,cell_of_one h.hc,cell_of_one h.hf,?_,?_,?_,?_,?_,dm h.hi,dm h.hi,dm h.hi,dm h.hi,dm h.hi⟩<;>(unfold World.cell?;rw[h.hi];rfl)
theorem Aq(h:St N op z c x w):w.cell? ⟨N+1+1+1,0,none⟩=some (.int .i64 op):=by unfold World.cell?;rw[h.hi];rfl
theorem Ef(h:St N op z c x w):w.cell? ⟨N+1+1+1,6,none⟩=some (.int .i64 z):=by unfold World.cell?;rw[h.hi];rfl
theorem Iq(h:St N op z c x w):(∀ j,w.frozen? ⟨N+1+1,j,none⟩=false)∧w.cell? ⟨N+1+1,0,none⟩=some (.int .i64 0)∧w.cell? ⟨N+1+1,1,none⟩=some (.int .i64 0)∧w.cell? ⟨N+1+1,2,none⟩=some (.int .i64 0)∧w.cell? ⟨N+1+1,3,none⟩=some (.int .u16 0)∧w.cell? ⟨N+1+1,4,none⟩=some (.int .u16 0)∧w.cell? ⟨N+1+1,5,none⟩=some (.int .i64 0)∧w.cell? ⟨N+1+1,6,none⟩=some (.int .i64 0):=by
 refine⟨fun j=>dm h.hr,?_,?_,?_,?_,?_,?_,?_⟩<;>(unfold World.cell?;rw[h.hr];rfl)
theorem wW{w wr:World}{N:Nat}{v:Ins}(h:Below N w wr):Below N w (((((((wr.setCell ⟨N+1+1,0,none⟩ (.int .i64 v.op)).setCell ⟨N+1+1,1,none⟩ (.int .i64 v.d)).setCell ⟨N+1+1,2,none⟩ (.int .i64 v.s)).setCell ⟨N+1+1,3,none⟩ (.int .u16 v.im)).setCell ⟨N+1+1,4,none⟩ (.int .u16 v.ax)).setCell ⟨N+1+1,5,none⟩ (.int .i64 v.bk)).setCell ⟨N+1+1,6,none⟩ (.int .i64 v.sz)).drew:=
 (((((((h.setCell (by simp;omega) _).setCell (by simp;omega) _).setCell (by simp;omega) _).setCell (by simp;omega) _).setCell (by simp;omega) _).setCell (by simp;omega) _).setCell (by simp;omega) _).drew
end
theorem JE{w W:World}{r:Row}{c:ByteArray}(h:Rd1 w r c W):St w.heap.size (ba c 0) r.z c (rs r c 0) ((W.alloc (.cells #[.int .i64 1] 3)).alloc (.cells #[uA (w.heap.size+1+1+1+1) (w.heap.size+1)] 178))∧
  Below w.heap.size w ((W.alloc (.cells #[.int .i64 1] 3)).alloc (.cells #[uA (w.heap.size+1+1+1+1) (w.heap.size+1)] 178)):=by
 have h4:=heap_alloc_new W (.cells #[.int .i64 1] 3);have h5:=heap_alloc_new (W.alloc (.cells #[.int .i64 1] 3)) (.cells #[uA (w.heap.size+1+1+1+1) (w.heap.size+1)] 178);have hz:=h.hz;simp only[World.size_alloc,hz] at h4 h5;exact⟨⟨aj _ _ _ (aj _ _ _ h.hc),aj _ _ _ (aj _ _ _ h.hr),aj _ _ _ (aj _ _ _ h.hi),aj _ _ _ h4,h5⟩,(h.hb.alloc (by omega) _).alloc (by simp;omega) _⟩
theorem Ee{w:World}{b:Nat}{r:Row}(h:w.heap[b]? =some (.cells (rowA r) 163 (0,0))):w.cell? ⟨b,4,none⟩=some (.int .u8 r.g0)∧w.cell? ⟨b,5,none⟩=some (.int .u8 r.g1)∧w.cell? ⟨b,6,none⟩=some (.int .u8 r.g2)∧w.cell? ⟨b,7,none⟩=some (.int .u8 r.g3):=by
 unfold World.cell?;rw[h];exact⟨rfl,rfl,rfl,rfl⟩
set_option maxRecDepth 100000 in
set_option maxHeartbeats 4000000 in
theorem BL(r:Row)(c:ByteArray)(w:World)(hc:jw r 4≤c.size)(hs:c.size≤maxLen)(z0:0≤r.z)(z1:r.z < 256):
  Calls Tryz.prog 136 #[rq r,.string c] w fun e w'=>e= .returned (.tuple #[dN (aI r c),.bool (readB r c)])∧Below w.heap.size w w':=by
 have h0:0 < c.size:=by have:=uB r 0 (by omega);have:jw r 0=1:=rfl;omega
 have HS:=Nc hs;unfold maxLen at hs;have Hc:=Nc hc;have HB0:=Nc (bG c 0 h0);clear hc;obtain⟨a,l,f,z,g0,g1,g2,g3,sx,os⟩:=r;simp only at z0 z1;unfold rq;have hix:∀ w:World,(Instr.index 9 (.string c) (.int .i64 0)).run Tryz.prog w= .ok (.int .u8 (ba c 0)) w:=fun w=>by rw[← HB0.out];go_simp
 have hb0:=ay c 0;have hw1:IntKind.i64.wrap (ba c 0)=ba c 0:=IntWalk.i64_in _ (by omega);have hw2:IntKind.i64.wrap z=z:=IntWalk.i64_in _ (by omega);go_enter Tryz.func136,Tryz.ntmps136
 go_upto_region 1 with fail
 obtain⟨W,hW⟩:∃ W:World,((w.alloc (.cells #[.int .u8 a,.int .u8 l,.int .u8 f,.int .u8 z,.int .u8 g0,.int .u8 g1,.int .u8 g2,.int .u8 g3,.string sx,.string os] 163)).alloc (.cells #[.string c] 9)).alloc
  (.cells #[.int .i64 0,.int .i64 0,.int .i64 0,.int .u16 0,.int .u16 0,.int .i64 0,.int .i64 0] 58)=W:=⟨_,rfl⟩
 rw[hW];obtain⟨k0,k1,n2,HH⟩:=BK (r:=⟨a,l,f,z,g0,g1,g2,g3,sx,os⟩) hW;clear hW;have n0:=World.new_ne W _ k0;have n1:=World.new_ne W _ k1;go_cut [6] (fun s6 wx=>s6= .pointer (some ⟨w.heap.size+1+1+1,0,none⟩)∧Hid (Rd1 w ⟨a,l,f,z,g0,g1,g2,g3,sx,os⟩ c wx))
 case first=>
  go_region_held3 (fun w'=>w'.cell? ⟨w.heap.size+1,0,none⟩=some (.string c)∧w'.cell? ⟨w.heap.size,3,none⟩=some (.int .u8 z)) (go_keep) (fail)
  all_goals
   go_wp2_with fail
   go_meet
   exact⟨rfl,Nc (II n2 HH.out)⟩
 case rest=>
  obtain⟨rfl,hr1⟩:=hcut;have hz:=hr1.out.hz;have q0:=Ee hr1.out.hf;go_wp2_with fail
  have HST:=Nc (show St w.heap.size (ba c 0) z c (rs (⟨a,l,f,z,g0,g1,g2,g3,sx,os⟩:Row) c 0) _∧_ from JE hr1.out);unfold uA at HST;have HL:=Nc (Iz (⟨a,l,f,z,g0,g1,g2,g3,sx,os⟩:Row) c);have Hgk:=Nc (DF (⟨a,l,f,z,g0,g1,g2,g3,sx,os⟩:Row));have HF:=Nc (uB (⟨a,l,f,z,g0,g1,g2,g3,sx,os⟩:Row));obtain⟨r,hr⟩:∃ r:Row,r=⟨a,l,f,z,g0,g1,g2,g3,sx,os⟩:=⟨_,rfl⟩;rw[← hr] at HL Hgk HF HST Hc;clear hix hw1 hw2 hb0 hs;go_loopw [7,25] (fun s7 kk wr=>∃ n:Nat,n≤4∧kk= .int .i64 n∧s7= .bool (rs r c n).ok∧Hid (St w.heap.size (ba c 0) z c (rs r c n) wr∧Below w.heap.size w wr)) (fun _ kk _=>(4-intOf kk).toNat)
  case atStart=>exact⟨0,by omega,rfl,rfl,HST⟩
  case round=>
   obtain⟨n,hn,rfl,rfl,hh⟩:=hrel;by_cases hlt:n < 4
   ·have hix:=Hgk.out n hlt
    rw[hr] at hix;simp only at hix;obtain⟨q,hq⟩:∃ q,gk r n=q:=⟨_,rfl⟩;rw[← hr,hq] at hix;have Hk:=Nc (show(rs r c n).k+fl q≤c.size by rw[HL.out n,← hq];exact Nat.le_trans (HF.out (n+1) (by omega)) Hc.out);have Hn:=Nc (show rs r c (n+1)=aN c q (rs r c n) by rw[← hq];rfl);obtain⟨x,hx⟩:∃ x,rs r c n=x:=⟨_,rfl⟩;rw[hx] at hh Hk Hn;rw[hx];obtain⟨d,s,im,ax,bk,k,ok⟩:=x;simp only at Hk;obtain⟨hA,fA,hC,hF,c1,c2,c3,c4,c5,f1,f2,f3,f4,f5⟩:=vg hh.out.1;unfold uA at hF;have hb:=ay c k;have hsx:=zl (ba c k) hb.1 hb.2;have hb2:=ay c (k+1);have hlw:=hh.out.2.size;clear hq hx
    rcases(show q=1∨q=2∨q=3∨q=4∨q=5∨q=6∨q=7∨q=8∨q=9∨¬ (q=1∨q=2∨q=3∨q=4∨q=5∨q=6∨q=7∨q=8∨q=9) by omega) with rfl|rfl|rfl|rfl|rfl|rfl|rfl|rfl|rfl|hq
    ·go_wp2_with fail
     refine(uz (w.heap.size+1+1+1+1) (w.heap.size+1) k c _ (by have:=Hk.out;simp[fl] at this;omega) HS.out hA fA hC (by omega)).mono ?_;rintro e w' ⟨rfl,rfl⟩;go_wp2_with fail
     go_roundw
     case rel=>exact⟨n+1,by omega,by go_num,by rw[Hn.out];first | rfl | (unfold aN;simp),Nc ⟨by rw[Hn.out];exact(hh.out.1.tick _ rfl).JJ _,((hh.out.2).setCell (by simp;try omega) _).setCell (by simp;try omega) _⟩⟩
     case measure=>simp[intOf];omega
    ·go_wp2_with fail
     refine(uz (w.heap.size+1+1+1+1) (w.heap.size+1) k c _ (by have:=Hk.out;simp[fl] at this;omega) HS.out hA fA hC (by omega)).mono ?_;rintro e w' ⟨rfl,rfl⟩;go_wp2_with fail
     go_roundw
     case rel=>exact⟨n+1,by omega,by go_num,by rw[Hn.out];first | rfl | (unfold aN;simp),Nc ⟨by rw[Hn.out];exact(hh.out.1.tick _ rfl).JI _,((hh.out.2).setCell (by simp;try omega) _).setCell (by simp;try omega) _⟩⟩
     case measure=>simp[intOf];omega
    ·go_wp2_with fail
     refine(uz (w.heap.size+1+1+1+1) (w.heap.size+1) k c _ (by have:=Hk.out;simp[fl] at this;omega) HS.out hA fA hC (by omega)).mono ?_;rintro e w' ⟨rfl,rfl⟩;go_wp2_with fail
     go_roundw
     case rel=>exact⟨n+1,by omega,by go_num,by rw[Hn.out];first | rfl | (unfold aN;simp),Nc ⟨by rw[Hn.out];exact((hh.out.1.tick _ rfl).JJ _).JI _,(((hh.out.2).setCell (by simp;try omega) _).setCell (by simp;try omega) _).setCell (by simp;try omega) _⟩⟩
     case measure=>simp[intOf];omega
    ·go_wp2_with fail
     refine(uz (w.heap.size+1+1+1+1) (w.heap.size+1) k c _ (by have:=Hk.out;simp[fl] at this;omega) HS.out hA fA hC (by omega)).mono ?_;rintro e w' ⟨rfl,rfl⟩;go_wp2_with fail
     go_roundw
     case rel=>exact⟨n+1,by omega,by go_num,by rw[Hn.out];first | rfl | (unfold aN;simp),Nc ⟨by rw[Hn.out];exact(hh.out.1.tick _ rfl).Iu _,((hh.out.2).setCell (by simp;try omega) _).setCell (by simp;try omega) _⟩⟩
     case measure=>simp[intOf];omega
    ·go_wp2_with fail
     refine(uz (w.heap.size+1+1+1+1) (w.heap.size+1) k c _ (by have:=Hk.out;simp[fl] at this;omega) HS.out hA fA hC (by omega)).mono ?_;rintro e w' ⟨rfl,rfl⟩;go_wp2_with fail
     go_roundw
     case rel=>exact⟨n+1,by omega,by go_num,by rw[Hn.out];first | rfl | (unfold aN;simp),Nc ⟨by rw[Hn.out];exact(hh.out.1.tick _ rfl).Iu _,((hh.out.2).setCell (by simp;try omega) _).setCell (by simp;try omega) _⟩⟩
     case measure=>simp[intOf];omega
    ·go_wp2_with fail
     refine(KI (w.heap.size+1+1+1+1+1) (w.heap.size+1+1+1+1) (w.heap.size+1) k c _ (by have:=Hk.out;simp[fl] at this;omega) HS.out hA fA hC hF (by omega) (by omega)).mono ?_;rintro e w' ⟨rfl,rfl⟩;go_wp2_with fail
     go_roundw
     case rel=>exact⟨n+1,by omega,by go_num,by rw[Hn.out];first | rfl | (unfold aN;simp),Nc ⟨by rw[Hn.out];exact((hh.out.1.tick _ rfl).tick _ rfl).Iu _,(((hh.out.2).setCell (by simp;try omega) _).setCell (by simp;try omega) _).setCell (by simp;try omega) _⟩⟩
     case measure=>simp[intOf];omega
    ·go_wp2_with fail
     refine(KI (w.heap.size+1+1+1+1+1) (w.heap.size+1+1+1+1) (w.heap.size+1) k c _ (by have:=Hk.out;simp[fl] at this;omega) HS.out hA fA hC hF (by omega) (by omega)).mono ?_;rintro e w' ⟨rfl,rfl⟩;go_wp2_with fail
     go_roundw
     case rel=>exact⟨n+1,by omega,by go_num,by rw[Hn.out];first | rfl | (unfold aN;simp),Nc ⟨by rw[Hn.out];exact((hh.out.1.tick _ rfl).tick _ rfl).LJ _,(((hh.out.2).setCell (by simp;try omega) _).setCell (by simp;try omega) _).setCell (by simp;try omega) _⟩⟩
     case measure=>simp[intOf];omega
    ·go_wp2_with fail
     refine(uz (w.heap.size+1+1+1+1) (w.heap.size+1) k c _ (by have:=Hk.out;simp[fl] at this;omega) HS.out hA fA hC (by omega)).mono ?_;rintro e w' ⟨rfl,rfl⟩;go_wp2_with fail
     go_roundw
     case rel=>exact⟨n+1,by omega,by go_num,by rw[Hn.out];first | rfl | (unfold aN;simp),Nc ⟨by rw[Hn.out];exact((hh.out.1.tick _ rfl).setB _).GZ _,((hh.out.2).setCell (by simp;try omega) _).setCell (by simp;try omega) _⟩⟩
     case measure=>simp[intOf];omega
    ·go_wp2_with fail
     refine(uz (w.heap.size+1+1+1+1) (w.heap.size+1) k c _ (by have:=Hk.out;simp[fl] at this;omega) HS.out hA fA hC (by omega)).mono ?_;rintro e w' ⟨rfl,rfl⟩;go_wp2_with fail
     go_roundw
     case rel=>exact⟨n+1,by omega,by go_num,by rw[Hn.out];first | rfl | (unfold aN;simp),Nc ⟨by rw[Hn.out];exact((hh.out.1.tick _ rfl).setB _).GZ _,((hh.out.2).setCell (by simp;try omega) _).setCell (by simp;try omega) _⟩⟩
     case measure=>simp[intOf];omega
    ·go_wp2_with fail
     go_roundw
     case rel=>exact⟨n+1,by omega,by go_num,by rw[Hn.out,pY _ _ _ hq],Nc ⟨by rw[Hn.out,pY _ _ _ hq];exact hh.out.1,hh.out.2⟩⟩
     case measure=>simp[intOf];omega
   ·obtain rfl:n=4:=by omega
    have HR:=Nc (show aI r c=⟨ba c 0,(rs r c 4).d,(rs r c 4).s,(rs r c 4).im,(rs r c 4).ax,(rs r c 4).bk,z⟩∧readB r c=((rs r c 4).ok && decide ((rs r c 4).d < 8) && decide ((rs r c 4).s < 8)) from⟨by rw[hr];rfl,rfl⟩);obtain⟨x,hx⟩:∃ x,rs r c 4=x:=⟨_,rfl⟩;rw[hx] at hh HR;rw[hx];obtain⟨d,s,im,ax,bk,k,ok⟩:=x;simp only at HR;obtain⟨hA,fA,hC,hF,c1,c2,c3,c4,c5,f1,f2,f3,f4,f5⟩:=vg hh.out.1;have c0:=Aq hh.out.1;have c6:=Ef hh.out.1;obtain⟨r0,r1,r2,r3,r4,r5,r6,r7⟩:=Iq hh.out.1;have hlw:=hh.out.2.size;clear hx hA fA hC hF f1 f2 f3 f4 f5;have Hbel:=Nc (fun x=>wW (N:=w.heap.size) (v:=x) hh.out.2);clear hh;have hne:w.heap.size+1+1+1≠w.heap.size+1+1:=by omega
    have hne':w.heap.size+1+1≠w.heap.size+1+1+1:=by omega
    cases ok
    ·go_upto_region 32 with fail
     generalize w.heap.size+1+1+1=NI at*;generalize w.heap.size+1+1=NR at*;go_region
     go_wp2_with fail
     exact bodyPost_ret (v:= .tuple #[.agg #[.int .i64 (ba c 0),.int .i64 d,.int .i64 s,.int .u16 im,.int .u16 ax,.int .i64 bk,.int .i64 z],.bool false]) (by simp[results,Tryz.results136,go_sem,r1,r2,r3,r4,r5,r6,r7]) rfl ⟨by rw[← hr,HR.out.1,HR.out.2];simp[dN],Hbel.out ⟨ba c 0,d,s,im,ax,bk,z⟩⟩
    ·by_cases hd:d < 8
     ·by_cases hs:s < 8
      ·have hd':decide (d < 8)=true:=by simpa using hd
       have hs':decide (s < 8)=true:=by simpa using hs
       go_upto_region 32 with fail
       generalize w.heap.size+1+1+1=NI at*;generalize w.heap.size+1+1=NR at*;go_region
       go_wp2_with fail
       exact bodyPost_ret (v:= .tuple #[.agg #[.int .i64 (ba c 0),.int .i64 d,.int .i64 s,.int .u16 im,.int .u16 ax,.int .i64 bk,.int .i64 z],.bool true]) (by simp[results,Tryz.results136,go_sem,r1,r2,r3,r4,r5,r6,r7]) rfl ⟨by rw[← hr,HR.out.1,HR.out.2];simp[dN,hd',hs'],Hbel.out ⟨ba c 0,d,s,im,ax,bk,z⟩⟩
      ·have hd':decide (d < 8)=true:=by simpa using hd
       have hs':decide (s < 8)=false:=by simpa using hs
       go_upto_region 32 with fail
       generalize w.heap.size+1+1+1=NI at*;generalize w.heap.size+1+1=NR at*;go_region
       go_wp2_with fail
       exact bodyPost_ret (v:= .tuple #[.agg #[.int .i64 (ba c 0),.int .i64 d,.int .i64 s,.int .u16 im,.int .u16 ax,.int .i64 bk,.int .i64 z],.bool false]) (by simp[results,Tryz.results136,go_sem,r1,r2,r3,r4,r5,r6,r7]) rfl ⟨by rw[← hr,HR.out.1,HR.out.2];simp[dN,hd',hs'],Hbel.out ⟨ba c 0,d,s,im,ax,bk,z⟩⟩
     ·have hd':decide (d < 8)=false:=by simpa using hd
      go_upto_region 32 with fail
      generalize w.heap.size+1+1+1=NI at*;generalize w.heap.size+1+1=NR at*;go_region
      go_wp2_with fail
      exact bodyPost_ret (v:= .tuple #[.agg #[.int .i64 (ba c 0),.int .i64 d,.int .i64 s,.int .u16 im,.int .u16 ax,.int .i64 bk,.int .i64 z],.bool false]) (by simp[results,Tryz.results136,go_sem,r1,r2,r3,r4,r5,r6,r7]) rfl ⟨by rw[← hr,HR.out.1,HR.out.2];simp[dN,hd'],Hbel.out ⟨ba c 0,d,s,im,ax,bk,z⟩⟩
theorem KW(g:Int)(i:Ins):(fb g i).length=fl g:=by unfold fb fl;(repeat' split)<;>simp
theorem tN(r:Row)(i:Ins):∀ k,(wl r i k).length=jw r k
 | 0=>rfl
 | k+1=>by simp[wl,jw,tN r i k,KW]
theorem nD(l:List Int):(bD l).data.toList=l.map (fun n=>UInt8.ofNat n.toNat):=by
 have h:∀ (l:List Int) (r:ByteArray),(l.foldl (fun r n=>r.push (UInt8.ofNat n.toNat)) r).data.toList=r.data.toList++l.map (fun n=>UInt8.ofNat n.toNat):=by
  intro l
  induction l with
  | nil=>intro r;simp
  | cons x l ih=>intro r;rw[List.foldl_cons,ih];simp[ByteArray.push]
 unfold bD;rw[h l ByteArray.empty];simp
theorem zq(l:List Int):(bD l).size=l.length:=by
 have:=congrArg List.length (nD l);simpa using this
theorem uP(r:Row)(i:Ins):(bD (ai r i)).size=jw r 4:=by rw[zq];exact tN r i 4
theorem Gm(r:Row):jw r 4≤9:=by
 have:=Ba r ⟨0,0,0,0,0,0,0⟩ 4;rw[tN] at this;omega
def ng(r:Row)(i:Ins):Bool:=readB r (bD (ai r i)) && decide (aI r (bD (ai r i))=i)
def lK(i:Ins):Int:=if known i.op=true then(if ng (row i.op) i=true then 0 else 3) else 11
def encS(i:Ins):ByteArray:=if known i.op=true then(if ng (row i.op) i=true then bD (ai (row i.op) i) else ByteArray.empty) else ByteArray.empty
theorem oD(op:Int):0≤(row op).z∧(row op).z < 256:=by
 unfold row
 split
 ·rename_i k hk
  have:=JA k (by have:=List.mem_of_find?_eq_some hk;simpa using this);omega
 ·decide
theorem dH{W:World}{b:Nat}{i:Ins}{fr:Nat × Nat}(h:W.heap[b]? =some (.cells (gJ i) 58 fr)):
  W.cell? ⟨b,0,none⟩=some (.int .i64 i.op)∧W.cell? ⟨b,1,none⟩=some (.int .i64 i.d)∧W.cell? ⟨b,2,none⟩=some (.int .i64 i.s)∧W.cell? ⟨b,3,none⟩=some (.int .u16 i.im)∧W.cell? ⟨b,4,none⟩=some (.int .u16 i.ax)∧W.cell? ⟨b,5,none⟩=some (.int .i64 i.bk)∧W.cell? ⟨b,6,none⟩=some (.int .i64 i.sz):=by
 unfold World.cell?;rw[h];exact⟨rfl,rfl,rfl,rfl,rfl,rfl,rfl⟩
theorem fV{w w1:World}{o:Obj}(h:Below (w.alloc o).heap.size (w.alloc o) w1):Below w.heap.size w w1∧w.heap.size < w1.heap.size:=by
 refine⟨((Below.refl _ _).alloc (Nat.le_refl _) o).trans (h.mono (by simp)),?_⟩;have:=h.size;simp at this;omega
set_option maxRecDepth 100000
def je(i:Ins):Bool:=decide (lK i=0)
theorem size_any(b:Int)(w:World)(b0:0≤b)(b1:b < 256)(ht:iq w)(h0:0 < w.heap.size):
  Calls Tryz.prog 106 #[.int .u8 b] w fun e w'=>e= .returned (.int .i64 (row b).z)∧Below w.heap.size w w':=by
 have Ht:=Nc ht;clear ht;have hz:=oD b;obtain⟨r,hr⟩:∃ r,row b=r:=⟨_,rfl⟩;rw[hr] at hz;have HR:=Nc hr;clear hr;go_enter Tryz.func106,Tryz.ntmps106
 go_wp2_with fail
 refine(mQ b _ (by omega) (by omega) Ht.out).mono ?_;rintro e w1 ⟨rfl,hb⟩;rw[HR.out];have Hb:=Nc hb;have hs:=hb.size;clear hb;unfold rq;go_wp2_with fail
 go_ret
 exact⟨eX (by rw[HR.out]),Hb.out.alloc hs _⟩
theorem vJ(op:Int)(h:known op=true):jw (row op) 4=(row op).z.toNat:=by
 unfold known row at*;cases hk:lq op with
 | none=>rw[hk] at h;cases h
 | some k=>
  have hlt:k < 22:=by have:=List.mem_of_find?_eq_some hk;simpa using this
  show jw (R k) 4=(R k).z.toNat;rcases ik hlt with rfl|rfl|rfl|rfl|rfl|rfl|rfl|rfl|rfl|rfl|rfl|rfl|rfl|rfl|rfl|rfl|rfl|rfl|rfl|rfl|rfl|rfl<;>decide
theorem kH{N:Nat}{w w1:World}(h:Below N w w1)(a b c d e f g:Value):
  Below N w (((((((w1.setCell ⟨N,0,none⟩ a).setCell ⟨N,1,none⟩ b).setCell ⟨N,2,none⟩ c).setCell ⟨N,3,none⟩ d).setCell ⟨N,4,none⟩ e).setCell ⟨N,5,none⟩ f).setCell ⟨N,6,none⟩ g):=
 ((((((h.setCell (Nat.le_refl _) _).setCell (Nat.le_refl _) _).setCell (Nat.le_refl _) _).setCell (Nat.le_refl _) _).setCell (Nat.le_refl _) _).setCell (Nat.le_refl _) _).setCell (Nat.le_refl _) _
def eH:Ins:=⟨0,0,0,0,0,0,0⟩
def fE(s:ByteArray):Int:=
 if s.size=0 then 10 else if known (ba s 0)=false then 11 else if (s.size:Int) < (row (ba s 0)).z then 10 else if readB (row (ba s 0)) s=true then 0 else 11
def fD(s:ByteArray):Ins:=if fE s=0 then aI (row (ba s 0)) s else eH
set_option maxHeartbeats 1000000 in
theorem decode_any(s:ByteArray)(w:World)(hs:s.size≤maxLen)(ht:iq w)(h0:0 < w.heap.size):
  Calls Tryz.prog 108 #[.string s] w fun e w'=>e= .returned (.tuple #[dN (fD s),.int .i64 (fE s)])∧Below w.heap.size w w':=by
 have Ht:=Nc ht;have HS:=Nc hs;unfold maxLen at hs;clear ht;have Hb0:=Nc ((Below.refl w.heap.size w).alloc (Nat.le_refl _) (.cells #[.int .i64 0,.int .i64 0,.int .i64 0,.int .u16 0,.int .u16 0,.int .i64 0,.int .i64 0] 58));by_cases hz:s.size=0
 ·have HE:=Nc (show fE s=10 by unfold fE;rw[if_pos hz])
  have he:s.toList=[]:=by rw[ByteArray.toList_eq];exact List.length_eq_zero_iff.1 hz
  have he2:s.toList.isEmpty=true:=by rw[he];rfl
  clear hz;go_enter Tryz.func108,Tryz.ntmps108
  go_wp2_with fail
  exact bodyPost_ret (v:= .tuple #[.agg #[.int .i64 0,.int .i64 0,.int .i64 0,.int .u16 0,.int .u16 0,.int .i64 0,.int .i64 0],.int .i64 10]) (by simp[results,Tryz.results108,go_sem]) rfl ⟨by unfold fD;rw[HE.out];rfl,Hb0.out⟩
 ·have h0s:0 < s.size:=by omega
  have he:s.toList.isEmpty=false:=by rw[ByteArray.toList_eq,List.isEmpty_eq_false_iff];intro e;exact hz (congrArg List.length e)
  have HB:=Nc (bG s 0 h0s);have hbd:=ay s 0;obtain⟨r,hr⟩:∃ r,row (ba s 0)=r:=⟨_,rfl⟩;obtain⟨kn,hkn⟩:∃ b,known (ba s 0)=b:=⟨_,rfl⟩;have hz0:=oD (ba s 0);rw[hr] at hz0;have HF:=Nc (fun h=>(vJ (ba s 0) h).trans rfl);have HE:=Nc (show fE s=if kn=false then 11 else if (s.size:Int) < r.z then 10 else if readB r s=true then 0 else 11 by unfold fE;rw[if_neg hz,hr,hkn]);have HI:=Nc (show fD s=if fE s=0 then aI r s else eH by unfold fD;rw[hr]);have HR:=Nc hr;have HK:=Nc hkn;rw[hr,hkn] at HF;clear hr hkn hz;go_enter Tryz.func108,Tryz.ntmps108
  go_wp2_with fail
  have HW:Hid (wrap64 (s[0].toNat:Int)=ba s 0):=Nc (by rw[HB.out];unfold wrap64;omega);rw[HW.out];refine(mQ (ba s 0) _ (by omega) (by omega) (bF h0 Ht.out Hb0.out)).mono ?_;rintro e w1 ⟨rfl,hb1⟩;rw[HR.out,HK.out];have Hz:=Nc (hb1.block w.heap.size (by simp) |>.trans (heap_alloc_new w (.cells (gJ eH) 58)));obtain⟨hb,hlt⟩:=fV hb1;have Hb:=Nc hb;obtain⟨e0,e1,e2,e3,e4,e5,e6⟩:=dH Hz.out;have f:=fun j=>dm (j:=j) Hz.out
  simp only[eH] at e0 e1 e2 e3 e4 e5 e6;clear hb hb1;obtain⟨a,l,fo,z,g0,g1,g2,g3,sx,os⟩:=r;simp only at hz0;unfold rq;cases kn
  ·go_wp2_with fail
   exact bodyPost_ret (v:= .tuple #[.agg #[.int .i64 0,.int .i64 0,.int .i64 0,.int .u16 0,.int .u16 0,.int .i64 0,.int .i64 0],.int .i64 11]) (by simp[results,Tryz.results108,go_sem,e0,e1,e2,e3,e4,e5,e6,hlt]) rfl ⟨by rw[HI.out,HE.out];rfl,(kH Hb.out _ _ _ _ _ _ _).alloc (by simp;omega) _⟩
  ·by_cases hl:(s.size:Int) < z
   ·have HD:=Nc (show fE s=10 by rw[HE.out];simp[hl])
    have HJ:=Nc (show fD s=eH by rw[HI.out,HD.out];rfl);go_wp2_with fail
    exact bodyPost_ret (v:= .tuple #[.agg #[.int .i64 0,.int .i64 0,.int .i64 0,.int .u16 0,.int .u16 0,.int .i64 0,.int .i64 0],.int .i64 10]) (by simp[results,Tryz.results108,go_sem,e0,e1,e2,e3,e4,e5,e6,hlt]) rfl ⟨by rw[HD.out,HJ.out];rfl,(kH Hb.out _ _ _ _ _ _ _).alloc (by simp;omega) _⟩
   ·go_wp2_with fail
    refine(BL ⟨a,l,fo,z,g0,g1,g2,g3,sx,os⟩ s _ (by have:=HF.out (by first | rfl | trivial);omega) HS.out hz0.1 hz0.2).mono ?_;rintro e w2 ⟨rfl,hb2⟩;have Hz2:=Nc ((hb2.block _ (show w.heap.size < _ by simp;omega)).trans (aj _ (.cells (rowA ⟨a,l,fo,z,g0,g1,g2,g3,sx,os⟩) 163) _ Hz.out));have Hb2:=Nc ((Hb.out.alloc (by omega) (.cells (rowA ⟨a,l,fo,z,g0,g1,g2,g3,sx,os⟩) 163)).trans (hb2.mono (by simp;omega)));have hlt2:w.heap.size < w2.heap.size:=by have:=hb2.size;simp at this;omega
    clear e0 e1 e2 e3 e4 e5 e6 f hb2;obtain⟨e0,e1,e2,e3,e4,e5,e6⟩:=dH Hz2.out;have f:=fun j=>dm (j:=j) Hz2.out
    simp only[eH] at e0 e1 e2 e3 e4 e5 e6;obtain⟨j,hj⟩:∃ j,aI ⟨a,l,fo,z,g0,g1,g2,g3,sx,os⟩ s=j:=⟨_,rfl⟩;obtain⟨bb,hbb⟩:∃ b,readB ⟨a,l,fo,z,g0,g1,g2,g3,sx,os⟩ s=b:=⟨_,rfl⟩;rw[hj] at HI;rw[hbb] at HE;rw[hj,hbb];clear hj hbb;obtain⟨op',d',s',im',ax',bk',sz'⟩:=j;unfold dN;cases bb
    ·have HD:=Nc (show fE s=11 by rw[HE.out];simp[hl])
     have HJ:=Nc (show fD s=eH by rw[HI.out,HD.out];rfl);go_wp2_with fail
     exact bodyPost_ret (v:= .tuple #[.agg #[.int .i64 0,.int .i64 0,.int .i64 0,.int .u16 0,.int .u16 0,.int .i64 0,.int .i64 0],.int .i64 11]) (by simp[results,Tryz.results108,go_sem,e0,e1,e2,e3,e4,e5,e6,hlt,hlt2]) rfl ⟨by rw[HD.out,HJ.out];rfl,(kH Hb2.out _ _ _ _ _ _ _).alloc (by simp;omega) _⟩
    ·have HD:=Nc (show fE s=0 by rw[HE.out];simp[hl])
     have HJ:=Nc (show fD s=⟨op',d',s',im',ax',bk',sz'⟩ by rw[HI.out,HD.out];rfl);go_wp2_with fail
     exact bodyPost_ret (v:= .tuple #[.agg #[.int .i64 op',.int .i64 d',.int .i64 s',.int .u16 im',.int .u16 ax',.int .i64 bk',.int .i64 sz'],.int .i64 0]) (by simp[results,Tryz.results108,go_sem,e0,e1,e2,e3,e4,e5,e6,hlt,hlt2]) rfl ⟨by rw[HD.out,HJ.out];rfl,(kH Hb2.out _ _ _ _ _ _ _).alloc (by simp;omega) _⟩
def l8:List Int:=[10,11,11,12,12,13,14,0,0,0,0,0,0,0,0,0]
def l9:List Int:=[15,15,16,16,0,0,17,0,0,0,0,0,0,0,0,0]
def lA:List Int:=[15,15,18,18,0,0,0,0,0,0,0,0,0,0,0,0]
def rH(h l:Int):Int:=
 if h=0 then(if l≤5 then 1 else 0) else if h=1 then(if l≤3 then 2 else if l≤5 then 3 else 0) else if h=2 then(if l≤14 then 4 else 0) else if h=3 then(if l≤14 then 5 else 0) else if h=4 then(if l≤14 then 6 else 0)
 else if h=5 then(if l≤3 then 7 else if l≤7 then 9 else if l≤11 then 8 else 0) else if h=6 then(if l≤13 then 10 else 0) else if h=7 then(if l≤13 then 11 else 0)
 else if h=8 then l8.getD l.toNat 0 else if h=9 then l9.getD l.toNat 0 else lA.getD l.toNat 0
def rF(op:Int):Int:=if op < 0∨163 < op then 0 else rH (op/16) (op%16)
theorem Jy(n:Int):bits .and .i64 n 15=n%16:=by
 have hm:(BitVec.ofInt 64 15).toNat=2 ^ 4-1:=by decide
 have key:(BitVec.ofInt 64 n &&& BitVec.ofInt 64 15).toNat=(n%((2 ^ 64:Nat):Int)).toNat%2 ^ 4:=by
  rw[BitVec.toNat_and,BitVec.toNat_ofInt,hm,Nat.and_two_pow_sub_one_eq_mod]
 show IntKind.i64.wrap ((BitVec.ofInt 64 n &&& BitVec.ofInt 64 15).toNat:Nat)=n%16;rw[key,IntKind.wrap_i64];omega
theorem Hy(n:Int):bits .and .i64 n 7=n%8:=by
 have hm:(BitVec.ofInt 64 7).toNat=2 ^ 3-1:=by decide
 have key:(BitVec.ofInt 64 n &&& BitVec.ofInt 64 7).toNat=(n%((2 ^ 64:Nat):Int)).toNat%2 ^ 3:=by
  rw[BitVec.toNat_and,BitVec.toNat_ofInt,hm,Nat.and_two_pow_sub_one_eq_mod]
 show IntKind.i64.wrap ((BitVec.ofInt 64 n &&& BitVec.ofInt 64 7).toNat:Nat)=n%8;rw[key,IntKind.wrap_i64];omega
theorem Jv(n:Int):bits .and .i64 n 63=n%64:=by
 have hm:(BitVec.ofInt 64 63).toNat=2 ^ 6-1:=by decide
 have key:(BitVec.ofInt 64 n &&& BitVec.ofInt 64 63).toNat=(n%((2 ^ 64:Nat):Int)).toNat%2 ^ 6:=by
  rw[BitVec.toNat_and,BitVec.toNat_ofInt,hm,Nat.and_two_pow_sub_one_eq_mod]
 show IntKind.i64.wrap ((BitVec.ofInt 64 n &&& BitVec.ofInt 64 63).toNat:Nat)=n%64;rw[key,IntKind.wrap_i64];omega
theorem oh(n:Int):bits .and .i64 n 65535=n%65536:=by
 have hm:(BitVec.ofInt 64 65535).toNat=2 ^ 16-1:=by decide
 have key:(BitVec.ofInt 64 n &&& BitVec.ofInt 64 65535).toNat=(n%((2 ^ 64:Nat):Int)).toNat%2 ^ 16:=by
  rw[BitVec.toNat_and,BitVec.toNat_ofInt,hm,Nat.and_two_pow_sub_one_eq_mod]
 show IntKind.i64.wrap ((BitVec.ofInt 64 n &&& BitVec.ofInt 64 65535).toNat:Nat)=n%65536;rw[key,IntKind.wrap_i64];omega
theorem MX(w:World)(k:Nat)(hk:k < 16):(w.alloc (.cells (l8.map (Value.int .i64)).toArray 127)).cell? ⟨w.heap.size,k,none⟩=some (.int .i64 (l8.getD k 0)):=by
 rcases(show k=0∨k=1∨k=2∨k=3∨k=4∨k=5∨k=6∨k=7∨k=8∨k=9∨k=10∨k=11∨k=12∨k=13∨k=14∨k=15 by omega) with rfl|rfl|rfl|rfl|rfl|rfl|rfl|rfl|rfl|rfl|rfl|rfl|rfl|rfl|rfl|rfl<;>simp[l8]
theorem MW(w:World)(k:Nat)(hk:k < 16):(w.alloc (.cells (l9.map (Value.int .i64)).toArray 127)).cell? ⟨w.heap.size,k,none⟩=some (.int .i64 (l9.getD k 0)):=by
 rcases(show k=0∨k=1∨k=2∨k=3∨k=4∨k=5∨k=6∨k=7∨k=8∨k=9∨k=10∨k=11∨k=12∨k=13∨k=14∨k=15 by omega) with rfl|rfl|rfl|rfl|rfl|rfl|rfl|rfl|rfl|rfl|rfl|rfl|rfl|rfl|rfl|rfl<;>simp[l9]
theorem MV(w:World)(k:Nat)(hk:k < 16):(w.alloc (.cells (lA.map (Value.int .i64)).toArray 127)).cell? ⟨w.heap.size,k,none⟩=some (.int .i64 (lA.getD k 0)):=by
 rcases(show k=0∨k=1∨k=2∨k=3∨k=4∨k=5∨k=6∨k=7∨k=8∨k=9∨k=10∨k=11∨k=12∨k=13∨k=14∨k=15 by omega) with rfl|rfl|rfl|rfl|rfl|rfl|rfl|rfl|rfl|rfl|rfl|rfl|rfl|rfl|rfl|rfl<;>simp[lA]
set_option maxHeartbeats 4000000 in
theorem gK(op:Int)(w:World)(o0: -9223372036854775808≤op)(o1:op≤9223372036854775807):
  Calls Tryz.prog 42 #[.int .i64 op] w fun e w'=>e= .returned (.int .i64 (rF op))∧Below w.heap.size w w':=by
 have B0:=Nc (Below.refl w.heap.size w);by_cases h0:op < 0
 ·have HF:=Nc (show rF op=0 by unfold rF;rw[if_pos (Or.inl h0)])
  go_enter Tryz.func42,Tryz.ntmps42
  go_wp2_with fail
  go_ret
  exact⟨eX HF.out.symm,B0.out⟩
 by_cases h1:163 < op
 ·have HF:=Nc (show rF op=0 by unfold rF;rw[if_pos (Or.inr h1)])
  go_enter Tryz.func42,Tryz.ntmps42
  go_wp2_with fail
  go_ret
  exact⟨eX HF.out.symm,B0.out⟩
 have hand:=Jy op;obtain⟨h,hh⟩:∃ h,op/16=h:=⟨_,rfl⟩;obtain⟨l,hl⟩:∃ l,op%16=l:=⟨_,rfl⟩;have HF:=Nc (show rF op=rH h l by unfold rF;rw[if_neg (by omega),hh,hl]);have l0:0≤l:=by omega
 have l1:l < 16:=by omega
 have hc:h=0∨h=1∨h=2∨h=3∨h=4∨h=5∨h=6∨h=7∨h=8∨h=9∨h=10:=by omega
 rw[hl] at hand;clear hl;rcases hc with rfl|rfl|rfl|rfl|rfl|rfl|rfl|rfl|rfl|rfl|rfl
 ·have HL:=Nc (show rF op=(if l≤5 then 1 else 0) by rw[HF.out];rfl)
  go_enter Tryz.func42,Tryz.ntmps42
  go_wp2_with fail
  all_goals
   go_ret
   exact⟨eX (by rw[HL.out];(repeat' split)<;>omega),B0.out⟩
 ·have HL:=Nc (show rF op=(if l≤3 then 2 else if l≤5 then 3 else 0) by rw[HF.out];rfl)
  go_enter Tryz.func42,Tryz.ntmps42
  go_wp2_with fail
  all_goals
   go_ret
   exact⟨eX (by rw[HL.out];(repeat' split)<;>omega),B0.out⟩
 ·have HL:=Nc (show rF op=(if l≤14 then 4 else 0) by rw[HF.out];rfl)
  go_enter Tryz.func42,Tryz.ntmps42
  go_wp2_with fail
  all_goals
   go_ret
   exact⟨eX (by rw[HL.out];(repeat' split)<;>omega),B0.out⟩
 ·have HL:=Nc (show rF op=(if l≤14 then 5 else 0) by rw[HF.out];rfl)
  go_enter Tryz.func42,Tryz.ntmps42
  go_wp2_with fail
  all_goals
   go_ret
   exact⟨eX (by rw[HL.out];(repeat' split)<;>omega),B0.out⟩
 ·have HL:=Nc (show rF op=(if l≤14 then 6 else 0) by rw[HF.out];rfl)
  go_enter Tryz.func42,Tryz.ntmps42
  go_wp2_with fail
  all_goals
   go_ret
   exact⟨eX (by rw[HL.out];(repeat' split)<;>omega),B0.out⟩
 ·have HL:=Nc (show rF op=(if l≤3 then 7 else if l≤7 then 9 else if l≤11 then 8 else 0) by rw[HF.out];rfl)
  go_enter Tryz.func42,Tryz.ntmps42
  go_wp2_with fail
  all_goals
   go_ret
   exact⟨eX (by rw[HL.out];(repeat' split)<;>omega),B0.out⟩
 ·have HL:=Nc (show rF op=(if l≤13 then 10 else 0) by rw[HF.out];rfl)
  go_enter Tryz.func42,Tryz.ntmps42
  go_wp2_with fail
  all_goals
   go_ret
   exact⟨eX (by rw[HL.out];(repeat' split)<;>omega),B0.out⟩
 ·have HL:=Nc (show rF op=(if l≤13 then 11 else 0) by rw[HF.out];rfl)
  go_enter Tryz.func42,Tryz.ntmps42
  go_wp2_with fail
  all_goals
   go_ret
   exact⟨eX (by rw[HL.out];(repeat' split)<;>omega),B0.out⟩
 ·obtain⟨k,rfl⟩:=Int.eq_ofNat_of_zero_le l0
  have hk:k < 16:=by omega
  have hc:=MX w k hk;obtain⟨v,hv⟩:∃ v,l8.getD k 0=v:=⟨_,rfl⟩;rw[hv] at hc;have HB:=Nc ((Below.refl w.heap.size w).alloc (Nat.le_refl _) (.cells (l8.map (Value.int .i64)).toArray 127));simp only[l8,List.map_cons,List.map_nil] at hc HB;have HL:=Nc (show rF op=v by rw[HF.out,← hv];rfl);clear hv;go_enter Tryz.func42,Tryz.ntmps42
  go_wp2_with fail
  go_ret
  exact⟨eX HL.out.symm,HB.out⟩
 ·obtain⟨k,rfl⟩:=Int.eq_ofNat_of_zero_le l0
  have hk:k < 16:=by omega
  have hc:=MW w k hk;obtain⟨v,hv⟩:∃ v,l9.getD k 0=v:=⟨_,rfl⟩;rw[hv] at hc;have HB:=Nc ((Below.refl w.heap.size w).alloc (Nat.le_refl _) (.cells (l9.map (Value.int .i64)).toArray 127));simp only[l9,List.map_cons,List.map_nil] at hc HB;have HL:=Nc (show rF op=v by rw[HF.out,← hv];rfl);clear hv;go_enter Tryz.func42,Tryz.ntmps42
  go_wp2_with fail
  go_ret
  exact⟨eX HL.out.symm,HB.out⟩
 ·obtain⟨k,rfl⟩:=Int.eq_ofNat_of_zero_le l0
  have hk:k < 16:=by omega
  have hc:=MV w k hk;obtain⟨v,hv⟩:∃ v,lA.getD k 0=v:=⟨_,rfl⟩;rw[hv] at hc;have HB:=Nc ((Below.refl w.heap.size w).alloc (Nat.le_refl _) (.cells (lA.map (Value.int .i64)).toArray 127));simp only[lA,List.map_cons,List.map_nil] at hc HB;have HL:=Nc (show rF op=v by rw[HF.out,← hv];rfl);clear hv;go_enter Tryz.func42,Tryz.ntmps42
  go_wp2_with fail
  go_ret
  exact⟨eX HL.out.symm,HB.out⟩
def ER:List Int:=[0,1,2,2,2,3,4,3,4,4,2,3,4,7,4,3,5,6,3]
def rZ(op:Int):Int:=ER.getD (rF op).toNat 0
theorem JP:∀ h,h < 11→∀ l,l < 16→0≤rH (h:Nat) (l:Nat)∧rH (h:Nat) (l:Nat)≤18:=by decide+kernel
theorem ku(op:Int):0≤rF op∧rF op≤18:=by
 unfold rF
 split
 ·omega
 ·obtain⟨h,hh⟩:=Int.eq_ofNat_of_zero_le (show 0≤op/16 by omega)
  obtain⟨l,hl⟩:=Int.eq_ofNat_of_zero_le (show 0≤op%16 by omega);rw[hh,hl];exact JP h (by omega) l (by omega)
def GR:Array Value:=#[.int .i64 0,.int .i64 1,.int .i64 2,.int .i64 2,.int .i64 2,.int .i64 3,.int .i64 4,.int .i64 3,.int .i64 4,.int .i64 4,.int .i64 2,.int .i64 3,.int .i64 4,.int .i64 7,.int .i64 4,.int .i64 3,.int .i64 5,.int .i64 6,.int .i64 3]
theorem GN(k:Nat)(hk:k < 19):GR[k]? =some (.int .i64 (ER.getD k 0)):=by
 rcases(show k=0∨k=1∨k=2∨k=3∨k=4∨k=5∨k=6∨k=7∨k=8∨k=9∨k=10∨k=11∨k=12∨k=13∨k=14∨k=15∨k=16∨k=17∨k=18 by omega) with rfl|rfl|rfl|rfl|rfl|rfl|rfl|rfl|rfl|rfl|rfl|rfl|rfl|rfl|rfl|rfl|rfl|rfl|rfl<;>kernel_rfl
theorem yz(w:World)(old cs:Array Value)(t:TypeId):((w.alloc (.cells old t)).setRow w.heap.size cs).heap[w.heap.size]? =some (.cells cs t (0,0))∧Below w.heap.size w ((w.alloc (.cells old t)).setRow w.heap.size cs)∧((w.alloc (.cells old t)).setRow w.heap.size cs).heap.size=w.heap.size+1:=
 ⟨setRow_heap _ _ _ cs t (0,0) (heap_alloc_new w _),below_setRow ((Below.refl _ _).alloc (Nat.le_refl _) _) (Nat.le_refl _) cs,by simp⟩
theorem jk(op:Int)(w:World)(o0:0≤op)(o1:op < 256):
  Calls Tryz.prog 45 #[.int .u8 op] w fun e w'=>e= .returned (.int .i64 (rZ op))∧Below w.heap.size w w':=by
 obtain⟨f0,f1⟩:=ku op;obtain⟨k,hk⟩:=Int.eq_ofNat_of_zero_le f0;have HF:=Nc (fun w=>gK op w (by omega) (by omega));rw[hk] at HF f1;have hc:=GN k (by omega);obtain⟨v,hv⟩:∃ v,ER.getD k 0=v:=⟨_,rfl⟩;have HV:=Nc (show rZ op=v by unfold rZ;rw[hk,← hv];rfl);rw[hv] at hc;have HC:=Nc hc;clear hv hk f0 hc;go_enter Tryz.func45,Tryz.ntmps45
 go_wp2_with (
  refine wpList_store_row rfl 130 _ _ rfl w.heap.size GR rfl rfl 130 #[.int .i64 0,.int .i64 0,.int .i64 0,.int .i64 0,.int .i64 0,.int .i64 0,.int .i64 0,.int .i64 0,.int .i64 0,.int .i64 0,.int .i64 0,.int .i64 0,.int .i64 0,.int .i64 0,.int .i64 0,.int .i64 0,.int .i64 0,.int .i64 0,.int .i64 0] (heap_alloc_new w _) (by kernel_rfl) (by kernel_rfl) (by kernel_rfl) ?_;obtain⟨g1,g2,g3⟩:=yz w #[.int .i64 0,.int .i64 0,.int .i64 0,.int .i64 0,.int .i64 0,.int .i64 0,.int .i64 0,.int .i64 0,.int .i64 0,.int .i64 0,.int .i64 0,.int .i64 0,.int .i64 0,.int .i64 0,.int .i64 0,.int .i64 0,.int .i64 0,.int .i64 0,.int .i64 0] GR 130;obtain⟨W,hW⟩:∃ W,(w.alloc (.cells #[.int .i64 0,.int .i64 0,.int .i64 0,.int .i64 0,.int .i64 0,.int .i64 0,.int .i64 0,.int .i64 0,.int .i64 0,.int .i64 0,.int .i64 0,.int .i64 0,.int .i64 0,.int .i64 0,.int .i64 0,.int .i64 0,.int .i64 0,.int .i64 0,.int .i64 0] 130)).setRow w.heap.size GR=W:=⟨_,rfl⟩;rw[hW] at g1 g2 g3;rw[hW];have G1:=Nc g1;have G2:=Nc g2;clear hW g1 g2)
 refine(HF.out _).mono ?_;rintro e w1 ⟨rfl,hb⟩;have hcell:w1.cell? ⟨w.heap.size,k,none⟩=some (.int .i64 v):=by
  rw[hb.cell (p:=⟨w.heap.size,k,none⟩) (by show w.heap.size < W.heap.size;omega)];unfold World.cell?;rw[G1.out];exact HC.out
 have Hb:=Nc (G2.out.trans (hb.mono (by omega)));clear hb;go_wp2_with fail
 go_ret
 exact⟨eX HV.out.symm,Hb.out⟩
def rgB(n:Int):Bool:=decide (0≤n∧n < 8)
theorem FC(n:Int)(w:World):Calls Tryz.prog 72 #[.int .i64 n] w fun e w'=>e= .returned (.bool (rgB n))∧w=w':=by
 by_cases h1:0≤n
 ·have HF:=Nc (show rgB n=decide (n < 8) by unfold rgB;simp[h1])
  by_cases h2:n < 8;all_goals
   go_enter Tryz.func72,Tryz.ntmps72
   go_wp2_with fail
   go_ret
   exact⟨jm (by rw[HF.out];simpa using h2),rfl⟩
 ·have HF:=Nc (show rgB n=false by unfold rgB;simp[h1])
  go_enter Tryz.func72,Tryz.ntmps72
  go_wp2_with fail
  go_ret
  exact⟨jm HF.out.symm,rfl⟩
def sgB(n:Int):Bool:=decide (n < 128∨65408≤n)
theorem Fj(n:Int)(w:World)(n0:0≤n)(n1:n < 65536):Calls Tryz.prog 73 #[.int .u16 n] w fun e w'=>e= .returned (.bool (sgB n))∧w=w':=by
 by_cases h1:n < 128
 ·have HF:=Nc (show sgB n=true by unfold sgB;simp;omega)
  go_enter Tryz.func73,Tryz.ntmps73
  go_wp2_with fail
  go_ret
  exact⟨jm HF.out.symm,rfl⟩
 ·by_cases h2:65408≤n
  ·have HF:=Nc (show sgB n=true by unfold sgB;simp;omega)
   go_enter Tryz.func73,Tryz.ntmps73
   go_wp2_with fail
   go_ret
   exact⟨jm HF.out.symm,rfl⟩
  ·have HF:=Nc (show sgB n=false by unfold sgB;simp;omega)
   go_enter Tryz.func73,Tryz.ntmps73
   go_wp2_with fail
   go_ret
   exact⟨jm HF.out.symm,rfl⟩
def bkB(n:Int):Bool:=decide (0≤n∧n < 64)
def rK(f:Int)(i:Ins):Bool:=
 if f=1 then i.d==0 && i.s==0 && i.im==0 && i.ax==0 && i.bk==0
 else if f=2 then rgB i.d && i.s==0 && i.im==0 && i.ax==0 && i.bk==0
 else if f=3 then i.d==0 && i.s==0 && decide (i.im < 256) && i.ax==0 && i.bk==0
 else if f=4 then rgB i.d && rgB i.s && i.im==0 && i.ax==0 && i.bk==0
 else if f=5 then rgB i.d && i.s==0 && sgB i.im && i.ax==0 && i.bk==0
 else if f=18 then rgB i.d && i.s==0 && sgB i.im && i.ax==0 && i.bk==0
 else if f=6 then rgB i.d && i.s==0 && i.ax==0 && i.bk==0
 else if f=9 then rgB i.d && i.s==0 && i.ax==0 && i.bk==0
 else if f=14 then rgB i.d && i.s==0 && i.ax==0 && i.bk==0
 else if f=7 then rgB i.d && rgB i.s && sgB i.im && i.ax==0 && i.bk==0
 else if f=8 then rgB i.d && rgB i.s && i.ax==0 && i.bk==0
 else if f=10 then i.d==0 && i.s==0 && sgB i.im && i.ax==0 && i.bk==0
 else if f=11 then i.d==0 && i.s==0 && i.ax==0 && i.bk==0
 else if f=12 then i.d==0 && i.s==0 && i.ax==0 && bkB i.bk
 else if f=13 then rgB i.d && i.s==0 && decide (1≤i.bk) && decide (i.bk < 256)
 else if f=15 then rgB i.d && i.s==0 && decide (i.im < 256) && i.ax==0 && i.bk==0
 else if f=16 then rgB i.d && rgB i.s && i.ax==0 && bkB i.bk
 else i.d==0 && rgB i.s && i.bk==0
def rV(i:Ins):Bool:=if rF i.op=0 then false else if i.sz=rZ i.op then rK (rF i.op) i else false
theorem yE(op:Int)(h:¬ rF op=0):0≤op∧op≤163:=by
 unfold rF at h
 split at h
 ·exact absurd rfl h
 ·omega
theorem Ez{B:Nat}{w w':World}{n j k:Nat}{x y:Value}(h:w.cell? ⟨n,j,none⟩=some x∧w.cell? ⟨n,k,none⟩=some y)(hb:Below B w w')(h1:n < B):
  w'.cell? ⟨n,j,none⟩=some x∧w'.cell? ⟨n,k,none⟩=some y:=
 ⟨(hb.cell (p:=⟨n,j,none⟩) h1).trans h.1,(hb.cell (p:=⟨n,k,none⟩) h1).trans h.2⟩
theorem uK{w:World}{a b:Addr}{x y:Value}(h:w.cell? a=some x∧w.cell? b=some y):w.drew.cell? a=some x∧w.drew.cell? b=some y:=h
end Go.Proofs.YthkcloapiefggaaGreatDoor
