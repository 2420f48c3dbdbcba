import Derived.Test.YthkcloapiefggaaGreatDoorQMac
import Derived.Test.YthkcloapiefggaaGreatDoorQBas
import Derived.Laws.Closers25b
namespace Go.Proofs.YthkcloapiefggaaGreatDoor
set_option linter.unusedVariables false
set_option linter.unusedSimpArgs false
set_option maxRecDepth 100000
set_option maxHeartbeats 1000000
open Go.ChangeShapes Go.WideShapes Go.RowKit
open Go.Maps in
theorem jR:Keyed Tryz.prog 3:=int_keyed Tryz.underlying3
theorem jG{a b c d:Int}(h:a=c)(g:b=d):Ending.returned (.tuple #[.int .u16 a,.int .u16 b])= .returned (.tuple #[.int .u16 c,.int .u16 d]):=by rw[h,g]
def AP(op a b f:Int)(e:Ending):Prop:=if op=43∧b=0 then e= .panicked (dQ 4 0) else e= .returned (.tuple #[.int .u16 (arR op a b f),.int .u16 (arF op a b f)])
theorem AP.y{op a b f:Int}{e:Ending}(h:¬ (op=43∧b=0))(g:e= .returned (.tuple #[.int .u16 (arR op a b f),.int .u16 (arF op a b f)])):AP op a b f e:=by unfold AP;rw[if_neg h];exact g
theorem AP.n{op a b f:Int}{e:Ending}(h:op=43∧b=0)(g:e= .panicked (dQ 4 0)):AP op a b f e:=by unfold AP;rw[if_pos h];exact g
theorem AP.yes{op a b f:Int}{e:Ending}(h:¬ (op=43∧b=0))(g:AP op a b f e):e= .returned (.tuple #[.int .u16 (arR op a b f),.int .u16 (arF op a b f)]):=by unfold AP at g;rw[if_neg h] at g;exact g
theorem AP.no{op a b f:Int}{e:Ending}(h:op=43∧b=0)(g:AP op a b f e):e= .panicked (dQ 4 0):=by unfold AP at g;rw[if_pos h] at g;exact g
def Good(w1:World)(lo hi:Nat)(op:Int)(v:Value):Prop:=∃ fn caps,v= .func (.func fn) #[] caps∧(∀ (args:Array Value) (w:World),(callFunc fn args).run Tryz.prog w= .ok (.enter fn args) w)∧∀ (W:World) (a b f:Int),(∀ k,lo≤k→k < hi→W.heap[k]? =w1.heap[k]?)→U16 a→U16 b→U16 f→
 Calls Tryz.prog fn (#[.int .u16 a,.int .u16 b,.int .u16 f]++caps) W fun e w'=>AP op a b f e∧Below W.heap.size W w'
theorem J7(a b f:Int)(w:World)(ha:U16 a)(hb:U16 b)(hf:U16 f):Calls Tryz.prog 92 #[.int .u16 a,.int .u16 b,.int .u16 f] w fun e w'=>AP 32 a b f e∧Below w.heap.size w w':=by
 obtain⟨a0,a1⟩:=ha;obtain⟨b0,b1⟩:=hb;obtain⟨f0,f1⟩:=hf;go_enter Tryz.func92,Tryz.ntmps92
 go_wp2_with fail
 go_ret2
 exact⟨AP.y (by omega) (jG rfl rfl),Below.refl _ _⟩
theorem J6(a b f:Int)(w:World)(ha:U16 a)(hb:U16 b)(hf:U16 f):Calls Tryz.prog 83 #[.int .u16 a,.int .u16 b,.int .u16 f] w fun e w'=>AP 33 a b f e∧Below w.heap.size w w':=by
 obtain⟨a0,a1⟩:=ha;obtain⟨b0,b1⟩:=hb;obtain⟨f0,f1⟩:=hf;go_enter Tryz.func83,Tryz.ntmps83
 go_wp2_with fail
 refine(add_any a b false _ a0 a1 b0 b1).mono ?_;rintro e w1 ⟨rfl,rfl⟩;go_wp2_with fail
 go_ret2
 exact⟨AP.y (by omega) (jG rfl rfl),Below.refl _ _⟩
theorem J5(a b f:Int)(w:World)(ha:U16 a)(hb:U16 b)(hf:U16 f):Calls Tryz.prog 85 #[.int .u16 a,.int .u16 b,.int .u16 f] w fun e w'=>AP 34 a b f e∧Below w.heap.size w w':=by
 obtain⟨a0,a1⟩:=ha;obtain⟨b0,b1⟩:=hb;obtain⟨f0,f1⟩:=hf;go_enter Tryz.func85,Tryz.ntmps85
 go_wp2_with fail
 refine(mP f _ f0 f1).mono ?_;rintro e w1 ⟨rfl,rfl⟩;go_wp2_with fail
 refine(add_any a b (cB f) _ a0 a1 b0 b1).mono ?_;rintro e w1 ⟨rfl,rfl⟩;go_wp2_with fail
 go_ret2
 exact⟨AP.y (by omega) (jG rfl rfl),Below.refl _ _⟩
theorem Ha(a b f:Int)(w:World)(ha:U16 a)(hb:U16 b)(hf:U16 f):Calls Tryz.prog 87 #[.int .u16 a,.int .u16 b,.int .u16 f] w fun e w'=>AP 35 a b f e∧Below w.heap.size w w':=by
 obtain⟨a0,a1⟩:=ha;obtain⟨b0,b1⟩:=hb;obtain⟨f0,f1⟩:=hf;go_enter Tryz.func87,Tryz.ntmps87
 go_wp2_with fail
 refine(tV a b true _ a0 a1 b0 b1).mono ?_;rintro e w1 ⟨rfl,rfl⟩;go_wp2_with fail
 go_ret2
 exact⟨AP.y (by omega) (jG rfl rfl),Below.refl _ _⟩
theorem J4(a b f:Int)(w:World)(ha:U16 a)(hb:U16 b)(hf:U16 f):Calls Tryz.prog 89 #[.int .u16 a,.int .u16 b,.int .u16 f] w fun e w'=>AP 36 a b f e∧Below w.heap.size w w':=by
 obtain⟨a0,a1⟩:=ha;obtain⟨b0,b1⟩:=hb;obtain⟨f0,f1⟩:=hf;go_enter Tryz.func89,Tryz.ntmps89
 go_wp2_with fail
 refine(mP f _ f0 f1).mono ?_;rintro e w1 ⟨rfl,rfl⟩;go_wp2_with fail
 refine(tV a b (cB f) _ a0 a1 b0 b1).mono ?_;rintro e w1 ⟨rfl,rfl⟩;go_wp2_with fail
 go_ret2
 exact⟨AP.y (by omega) (jG rfl rfl),Below.refl _ _⟩
theorem J9(a b f:Int)(w:World)(ha:U16 a)(hb:U16 b)(hf:U16 f):Calls Tryz.prog 102 #[.int .u16 a,.int .u16 b,.int .u16 f] w fun e w'=>AP 18 a b f e∧Below w.heap.size w w':=by
 obtain⟨a0,a1⟩:=ha;obtain⟨b0,b1⟩:=hb;obtain⟨f0,f1⟩:=hf;go_enter Tryz.func102,Tryz.ntmps102
 go_wp2_with fail
 refine(tV 0 a true _ (by decide) (by decide) a0 a1).mono ?_;rintro e w1 ⟨rfl,rfl⟩;go_wp2_with fail
 go_ret2
 exact⟨AP.y (by omega) (jG rfl rfl),Below.refl _ _⟩
theorem KF(a b:Int)(w:World)(ha:U16 a)(hb:U16 b):Calls Tryz.prog 91 #[.int .u16 a,.int .u16 b] w fun e w'=>e= .returned (.int .u16 (bits .and .u16 a b))∧Below w.heap.size w w':=by
 obtain⟨a0,a1⟩:=ha;obtain⟨b0,b1⟩:=hb;go_enter Tryz.func91,Tryz.ntmps91
 go_wp2_with fail
 go_ret
 exact⟨rfl,Below.refl _ _⟩
theorem KE(a b:Int)(w:World)(ha:U16 a)(hb:U16 b):Calls Tryz.prog 93 #[.int .u16 a,.int .u16 b] w fun e w'=>e= .returned (.int .u16 (bits .or .u16 a b))∧Below w.heap.size w w':=by
 obtain⟨a0,a1⟩:=ha;obtain⟨b0,b1⟩:=hb;go_enter Tryz.func93,Tryz.ntmps93
 go_wp2_with fail
 go_ret
 exact⟨rfl,Below.refl _ _⟩
theorem KD(a b:Int)(w:World)(ha:U16 a)(hb:U16 b):Calls Tryz.prog 94 #[.int .u16 a,.int .u16 b] w fun e w'=>e= .returned (.int .u16 (bits .xor .u16 a b))∧Below w.heap.size w w':=by
 obtain⟨a0,a1⟩:=ha;obtain⟨b0,b1⟩:=hb;go_enter Tryz.func94,Tryz.ntmps94
 go_wp2_with fail
 go_ret
 exact⟨rfl,Below.refl _ _⟩
theorem KC(a b:Int)(w:World)(ha:U16 a)(hb:U16 b):Calls Tryz.prog 96 #[.int .u16 a,.int .u16 b] w fun e w'=>e= .returned (.int .u16 (a*b%65536))∧Below w.heap.size w w':=by
 obtain⟨a0,a1⟩:=ha;obtain⟨b0,b1⟩:=hb;go_enter Tryz.func96,Tryz.ntmps96
 go_wp2_with fail
 go_ret
 exact⟨eX (IntKind.wrap_u16 _),Below.refl _ _⟩
theorem Kz(a b:Int)(w:World)(ha:U16 a)(hb:U16 b):Calls Tryz.prog 98 #[.int .u16 a,.int .u16 b] w fun e w'=>e= .returned (.int .u16 (shV 0 a (b%16)))∧Below w.heap.size w w':=by
 obtain⟨a0,a1⟩:=ha;obtain⟨b0,b1⟩:=hb;go_enter Tryz.func98,Tryz.ntmps98
 go_wp2_with fail
 refine(nG 0 a b _ (by decide) a0 a1 b0 b1).mono ?_;rintro e w1 ⟨rfl,hb⟩;have HB:=Nc hb;clear hb;go_wp2_with fail
 go_ret
 exact⟨rfl,HB.out⟩
theorem Ky(a b:Int)(w:World)(ha:U16 a)(hb:U16 b):Calls Tryz.prog 100 #[.int .u16 a,.int .u16 b] w fun e w'=>e= .returned (.int .u16 (shV 1 a (b%16)))∧Below w.heap.size w w':=by
 obtain⟨a0,a1⟩:=ha;obtain⟨b0,b1⟩:=hb;go_enter Tryz.func100,Tryz.ntmps100
 go_wp2_with fail
 refine(nG 1 a b _ (by decide) a0 a1 b0 b1).mono ?_;rintro e w1 ⟨rfl,hb⟩;have HB:=Nc hb;clear hb;go_wp2_with fail
 go_ret
 exact⟨rfl,HB.out⟩
theorem Kw(a b:Int)(w:World)(ha:U16 a)(hb:U16 b):Calls Tryz.prog 101 #[.int .u16 a,.int .u16 b] w fun e w'=>e= .returned (.int .u16 (shV 2 a (b%16)))∧Below w.heap.size w w':=by
 obtain⟨a0,a1⟩:=ha;obtain⟨b0,b1⟩:=hb;go_enter Tryz.func101,Tryz.ntmps101
 go_wp2_with fail
 refine(nG 2 a b _ (by decide) a0 a1 b0 b1).mono ?_;rintro e w1 ⟨rfl,hb⟩;have HB:=Nc hb;clear hb;go_wp2_with fail
 go_ret
 exact⟨rfl,HB.out⟩
theorem KG(a b:Int)(w:World)(ha:U16 a)(hb:U16 b):Calls Tryz.prog 103 #[.int .u16 a,.int .u16 b] w fun e w'=>e= .returned (.int .u16 (65535-a))∧Below w.heap.size w w':=by
 obtain⟨a0,a1⟩:=ha;obtain⟨b0,b1⟩:=hb;have hx:=He a a0 a1;have hk:IntKind.u16.signed=false:=rfl;go_enter Tryz.func103,Tryz.ntmps103
 go_wp2_with fail
 go_ret
 exact⟨rfl,Below.refl _ _⟩
theorem KA(a b:Int)(w:World)(ha:U16 a)(hb:U16 b)(h:¬ b=0):Calls Tryz.prog 97 #[.int .u16 a,.int .u16 b] w fun e w'=>e= .returned (.int .u16 (a/b))∧Below w.heap.size w w':=by
 obtain⟨a0,a1⟩:=ha;obtain⟨b0,b1⟩:=hb;have hq:(b != 0)=true:=by simpa using h
 have ht:a.tdiv b=a/b:=Int.tdiv_eq_ediv_of_nonneg a0;have hle:a/b≤a:=Int.ediv_le_self _ a0;have hge:0≤a/b:=Int.ediv_nonneg a0 b0;have hw:IntKind.u16.wrap (a/b)=a/b:=by rw[IntKind.wrap_u16];omega
 go_enter Tryz.func97,Tryz.ntmps97
 go_wp2_with fail
 refine(dw _ _ _).mono ?_;rintro e w1 ⟨rfl,rfl⟩;go_wp2_with fail
 go_ret
 exact⟨rfl,Below.refl _ _⟩
theorem Jc(a:Int)(w:World):Calls Tryz.prog 97 #[.int .u16 a,.int .u16 0] w fun e w'=>e= .panicked (dQ 4 0)∧w=w':=by
 go_enter Tryz.func97,Tryz.ntmps97
 go_wp2_with fail
 refine(bH _ _ _).mono ?_;rintro e w1 ⟨rfl,rfl⟩;go_wp2_with fail
 exact⟨rfl,rfl,rfl⟩
theorem wS(a b:Int):U16 (bits .xor .u16 a b):=⟨bits_lo_u16 _ _ _,by have:=bits_hi_u16 .xor a b;omega⟩
theorem CQ(a b:Int):U16 (bits .or .u16 a b):=⟨bits_lo_u16 _ _ _,by have:=bits_hi_u16 .or a b;omega⟩
theorem uJ(a b:Int):U16 (bits .and .u16 a b):=⟨bits_lo_u16 _ _ _,by have:=bits_hi_u16 .and a b;omega⟩
theorem G9(a b f:Int)(p:Nat)(w:World)(ha:U16 a)(hb:U16 b)(hf:U16 f)(hc:w.cell? ⟨p,0,none⟩=some (.func (.func 91) #[] #[])):
  Calls Tryz.prog 127 #[.int .u16 a,.int .u16 b,.int .u16 f,.pointer (some ⟨p,0,none⟩)] w fun e w'=>AP 37 a b f e∧Below w.heap.size w w':=by
 have HC:=Nc (fun W=>KF a b W ha hb);have HR:=Nc (show arR 37 a b f=bits .and .u16 a b from rfl);have HF:=Nc (show arF 37 a b f=iD f (bits .and .u16 a b) from rfl);have hbd:U16 (bits .and .u16 a b):=uJ a b;obtain⟨r,hr⟩:∃ r,bits .and .u16 a b=r:=⟨_,rfl⟩;rw[hr] at HC HR HF hbd;obtain⟨f0,f1⟩:=hf;obtain⟨r0,r1⟩:=hbd;clear hr;go_enter Tryz.func127,Tryz.ntmps127
 go_wp2_with fail
 refine(HC.out _).mono ?_;rintro e w1 ⟨rfl,hb1⟩;have HB:=Nc hb1;clear hb1;go_wp2_with fail
 refine(gW f r _ f0 f1 r0 r1).mono ?_;rintro e w2 ⟨rfl,rfl⟩;go_wp2_with fail
 go_ret2
 exact⟨AP.y (by omega) (jG HR.out.symm HF.out.symm),HB.out⟩
theorem J3(a b f:Int)(p:Nat)(w:World)(ha:U16 a)(hb:U16 b)(hf:U16 f)(hc:w.cell? ⟨p,0,none⟩=some (.func (.func 93) #[] #[])):
  Calls Tryz.prog 127 #[.int .u16 a,.int .u16 b,.int .u16 f,.pointer (some ⟨p,0,none⟩)] w fun e w'=>AP 38 a b f e∧Below w.heap.size w w':=by
 have HC:=Nc (fun W=>KE a b W ha hb);have HR:=Nc (show arR 38 a b f=bits .or .u16 a b from rfl);have HF:=Nc (show arF 38 a b f=iD f (bits .or .u16 a b) from rfl);have hbd:U16 (bits .or .u16 a b):=CQ a b;obtain⟨r,hr⟩:∃ r,bits .or .u16 a b=r:=⟨_,rfl⟩;rw[hr] at HC HR HF hbd;obtain⟨f0,f1⟩:=hf;obtain⟨r0,r1⟩:=hbd;clear hr;go_enter Tryz.func127,Tryz.ntmps127
 go_wp2_with fail
 refine(HC.out _).mono ?_;rintro e w1 ⟨rfl,hb1⟩;have HB:=Nc hb1;clear hb1;go_wp2_with fail
 refine(gW f r _ f0 f1 r0 r1).mono ?_;rintro e w2 ⟨rfl,rfl⟩;go_wp2_with fail
 go_ret2
 exact⟨AP.y (by omega) (jG HR.out.symm HF.out.symm),HB.out⟩
theorem JZ(a b f:Int)(p:Nat)(w:World)(ha:U16 a)(hb:U16 b)(hf:U16 f)(hc:w.cell? ⟨p,0,none⟩=some (.func (.func 94) #[] #[])):
  Calls Tryz.prog 127 #[.int .u16 a,.int .u16 b,.int .u16 f,.pointer (some ⟨p,0,none⟩)] w fun e w'=>AP 39 a b f e∧Below w.heap.size w w':=by
 have HC:=Nc (fun W=>KD a b W ha hb);have HR:=Nc (show arR 39 a b f=bits .xor .u16 a b from rfl);have HF:=Nc (show arF 39 a b f=iD f (bits .xor .u16 a b) from rfl);have hbd:U16 (bits .xor .u16 a b):=wS a b;obtain⟨r,hr⟩:∃ r,bits .xor .u16 a b=r:=⟨_,rfl⟩;rw[hr] at HC HR HF hbd;obtain⟨f0,f1⟩:=hf;obtain⟨r0,r1⟩:=hbd;clear hr;go_enter Tryz.func127,Tryz.ntmps127
 go_wp2_with fail
 refine(HC.out _).mono ?_;rintro e w1 ⟨rfl,hb1⟩;have HB:=Nc hb1;clear hb1;go_wp2_with fail
 refine(gW f r _ f0 f1 r0 r1).mono ?_;rintro e w2 ⟨rfl,rfl⟩;go_wp2_with fail
 go_ret2
 exact⟨AP.y (by omega) (jG HR.out.symm HF.out.symm),HB.out⟩
theorem JW(a b f:Int)(p:Nat)(w:World)(ha:U16 a)(hb:U16 b)(hf:U16 f)(hc:w.cell? ⟨p,0,none⟩=some (.func (.func 96) #[] #[])):
  Calls Tryz.prog 127 #[.int .u16 a,.int .u16 b,.int .u16 f,.pointer (some ⟨p,0,none⟩)] w fun e w'=>AP 42 a b f e∧Below w.heap.size w w':=by
 have HC:=Nc (fun W=>KC a b W ha hb);have HR:=Nc (show arR 42 a b f=a*b%65536 from rfl);have HF:=Nc (show arF 42 a b f=iD f (a*b%65536) from rfl);have hbd:U16 (a*b%65536):=dU _;obtain⟨r,hr⟩:∃ r,a*b%65536=r:=⟨_,rfl⟩;rw[hr] at HC HR HF hbd;obtain⟨f0,f1⟩:=hf;obtain⟨r0,r1⟩:=hbd;clear hr;go_enter Tryz.func127,Tryz.ntmps127
 go_wp2_with fail
 refine(HC.out _).mono ?_;rintro e w1 ⟨rfl,hb1⟩;have HB:=Nc hb1;clear hb1;go_wp2_with fail
 refine(gW f r _ f0 f1 r0 r1).mono ?_;rintro e w2 ⟨rfl,rfl⟩;go_wp2_with fail
 go_ret2
 exact⟨AP.y (by omega) (jG HR.out.symm HF.out.symm),HB.out⟩
theorem JV(a b f:Int)(p:Nat)(w:World)(ha:U16 a)(hb:U16 b)(hf:U16 f)(hz:¬ b=0)(hc:w.cell? ⟨p,0,none⟩=some (.func (.func 97) #[] #[])):
  Calls Tryz.prog 127 #[.int .u16 a,.int .u16 b,.int .u16 f,.pointer (some ⟨p,0,none⟩)] w fun e w'=>AP 43 a b f e∧Below w.heap.size w w':=by
 have HC:=Nc (fun W=>KA a b W ha hb hz);have HR:=Nc (show arR 43 a b f=a/b from rfl);have HF:=Nc (show arF 43 a b f=iD f (a/b) from rfl);have hbd:U16 (a/b):=⟨Int.ediv_nonneg ha.1 hb.1,by have:=Int.ediv_le_self b ha.1;have:=ha.2;omega⟩;obtain⟨r,hr⟩:∃ r,a/b=r:=⟨_,rfl⟩;rw[hr] at HC HR HF hbd;obtain⟨f0,f1⟩:=hf;obtain⟨r0,r1⟩:=hbd;have HNZ:=Nc hz;clear hr;go_enter Tryz.func127,Tryz.ntmps127
 go_wp2_with fail
 refine(HC.out _).mono ?_;rintro e w1 ⟨rfl,hb1⟩;have HB:=Nc hb1;clear hb1;go_wp2_with fail
 refine(gW f r _ f0 f1 r0 r1).mono ?_;rintro e w2 ⟨rfl,rfl⟩;go_wp2_with fail
 go_ret2
 exact⟨AP.y (fun c=>HNZ.out c.2) (jG HR.out.symm HF.out.symm),HB.out⟩
theorem JU(a b f:Int)(p:Nat)(w:World)(ha:U16 a)(hb:U16 b)(hf:U16 f)(hc:w.cell? ⟨p,0,none⟩=some (.func (.func 98) #[] #[])):
  Calls Tryz.prog 127 #[.int .u16 a,.int .u16 b,.int .u16 f,.pointer (some ⟨p,0,none⟩)] w fun e w'=>AP 44 a b f e∧Below w.heap.size w w':=by
 have HC:=Nc (fun W=>Kz a b W ha hb);have HR:=Nc (show arR 44 a b f=shV 0 a (b%16) from rfl);have HF:=Nc (show arF 44 a b f=iD f (shV 0 a (b%16)) from rfl);have hbd:U16 (shV 0 a (b%16)):=lw 0 a _ ha.1 ha.2;obtain⟨r,hr⟩:∃ r,shV 0 a (b%16)=r:=⟨_,rfl⟩;rw[hr] at HC HR HF hbd;obtain⟨f0,f1⟩:=hf;obtain⟨r0,r1⟩:=hbd;clear hr;go_enter Tryz.func127,Tryz.ntmps127
 go_wp2_with fail
 refine(HC.out _).mono ?_;rintro e w1 ⟨rfl,hb1⟩;have HB:=Nc hb1;clear hb1;go_wp2_with fail
 refine(gW f r _ f0 f1 r0 r1).mono ?_;rintro e w2 ⟨rfl,rfl⟩;go_wp2_with fail
 go_ret2
 exact⟨AP.y (by omega) (jG HR.out.symm HF.out.symm),HB.out⟩
theorem JS(a b f:Int)(p:Nat)(w:World)(ha:U16 a)(hb:U16 b)(hf:U16 f)(hc:w.cell? ⟨p,0,none⟩=some (.func (.func 100) #[] #[])):
  Calls Tryz.prog 127 #[.int .u16 a,.int .u16 b,.int .u16 f,.pointer (some ⟨p,0,none⟩)] w fun e w'=>AP 45 a b f e∧Below w.heap.size w w':=by
 have HC:=Nc (fun W=>Ky a b W ha hb);have HR:=Nc (show arR 45 a b f=shV 1 a (b%16) from rfl);have HF:=Nc (show arF 45 a b f=iD f (shV 1 a (b%16)) from rfl);have hbd:U16 (shV 1 a (b%16)):=lw 1 a _ ha.1 ha.2;obtain⟨r,hr⟩:∃ r,shV 1 a (b%16)=r:=⟨_,rfl⟩;rw[hr] at HC HR HF hbd;obtain⟨f0,f1⟩:=hf;obtain⟨r0,r1⟩:=hbd;clear hr;go_enter Tryz.func127,Tryz.ntmps127
 go_wp2_with fail
 refine(HC.out _).mono ?_;rintro e w1 ⟨rfl,hb1⟩;have HB:=Nc hb1;clear hb1;go_wp2_with fail
 refine(gW f r _ f0 f1 r0 r1).mono ?_;rintro e w2 ⟨rfl,rfl⟩;go_wp2_with fail
 go_ret2
 exact⟨AP.y (by omega) (jG HR.out.symm HF.out.symm),HB.out⟩
theorem JR(a b f:Int)(p:Nat)(w:World)(ha:U16 a)(hb:U16 b)(hf:U16 f)(hc:w.cell? ⟨p,0,none⟩=some (.func (.func 101) #[] #[])):
  Calls Tryz.prog 127 #[.int .u16 a,.int .u16 b,.int .u16 f,.pointer (some ⟨p,0,none⟩)] w fun e w'=>AP 46 a b f e∧Below w.heap.size w w':=by
 have HC:=Nc (fun W=>Kw a b W ha hb);have HR:=Nc (show arR 46 a b f=shV 2 a (b%16) from rfl);have HF:=Nc (show arF 46 a b f=iD f (shV 2 a (b%16)) from rfl);have hbd:U16 (shV 2 a (b%16)):=lw 2 a _ ha.1 ha.2;obtain⟨r,hr⟩:∃ r,shV 2 a (b%16)=r:=⟨_,rfl⟩;rw[hr] at HC HR HF hbd;obtain⟨f0,f1⟩:=hf;obtain⟨r0,r1⟩:=hbd;clear hr;go_enter Tryz.func127,Tryz.ntmps127
 go_wp2_with fail
 refine(HC.out _).mono ?_;rintro e w1 ⟨rfl,hb1⟩;have HB:=Nc hb1;clear hb1;go_wp2_with fail
 refine(gW f r _ f0 f1 r0 r1).mono ?_;rintro e w2 ⟨rfl,rfl⟩;go_wp2_with fail
 go_ret2
 exact⟨AP.y (by omega) (jG HR.out.symm HF.out.symm),HB.out⟩
theorem J8(a b f:Int)(p:Nat)(w:World)(ha:U16 a)(hb:U16 b)(hf:U16 f)(hc:w.cell? ⟨p,0,none⟩=some (.func (.func 103) #[] #[])):
  Calls Tryz.prog 127 #[.int .u16 a,.int .u16 b,.int .u16 f,.pointer (some ⟨p,0,none⟩)] w fun e w'=>AP 19 a b f e∧Below w.heap.size w w':=by
 have HC:=Nc (fun W=>KG a b W ha hb);have HR:=Nc (show arR 19 a b f=65535-a from rfl);have HF:=Nc (show arF 19 a b f=iD f (65535-a) from rfl);have hbd:U16 (65535-a):=⟨by have:=ha.2;omega,by have:=ha.1;omega⟩;obtain⟨r,hr⟩:∃ r,65535-a=r:=⟨_,rfl⟩;rw[hr] at HC HR HF hbd;obtain⟨f0,f1⟩:=hf;obtain⟨r0,r1⟩:=hbd;clear hr;go_enter Tryz.func127,Tryz.ntmps127
 go_wp2_with fail
 refine(HC.out _).mono ?_;rintro e w1 ⟨rfl,hb1⟩;have HB:=Nc hb1;clear hb1;go_wp2_with fail
 refine(gW f r _ f0 f1 r0 r1).mono ?_;rintro e w2 ⟨rfl,rfl⟩;go_wp2_with fail
 go_ret2
 exact⟨AP.y (by omega) (jG HR.out.symm HF.out.symm),HB.out⟩
theorem IR(a f:Int)(p:Nat)(w:World)(hc:w.cell? ⟨p,0,none⟩=some (.func (.func 97) #[] #[])):
  Calls Tryz.prog 127 #[.int .u16 a,.int .u16 0,.int .u16 f,.pointer (some ⟨p,0,none⟩)] w fun e w'=>AP 43 a 0 f e∧Below w.heap.size w w':=by
 go_enter Tryz.func127,Tryz.ntmps127
 go_wp2_with fail
 refine(Jc a _).mono ?_;rintro e w1 ⟨rfl,rfl⟩;go_wp2_with fail
 exact⟨rfl,AP.n ⟨rfl,rfl⟩ rfl,Below.refl _ _⟩
theorem JY(a b f:Int)(p:Nat)(w:World)(ha:U16 a)(hb:U16 b)(hf:U16 f)(hc:w.cell? ⟨p,0,none⟩=some (.func (.func 87) #[] #[])):
  Calls Tryz.prog 129 #[.int .u16 a,.int .u16 b,.int .u16 f,.pointer (some ⟨p,0,none⟩)] w fun e w'=>AP 40 a b f e∧Below w.heap.size w w':=by
 have HC:=Nc (Ha a b f w ha hb hf);have HR:=Nc (show arR 40 a b f=a from rfl);have HF:=Nc (show arF 40 a b f=arF 35 a b f from rfl);obtain⟨r,hr⟩:∃ r,arR 35 a b f=r:=⟨_,rfl⟩;obtain⟨g,hg⟩:∃ g,arF 35 a b f=g:=⟨_,rfl⟩;have HC2:=Nc (HC.out.mono fun e w' h=>(⟨(AP.yes (by omega) h.1).trans (jG hr hg),h.2⟩:e= .returned (.tuple #[.int .u16 r,.int .u16 g])∧Below w.heap.size w w'));rw[hg] at HF;clear hr hg HC;go_enter Tryz.func129,Tryz.ntmps129
 go_wp2_with fail
 refine HC2.out.mono ?_;rintro e w1 ⟨rfl,hb1⟩;have HB:=Nc hb1;clear hb1;go_wp2_with fail
 go_ret2
 exact⟨AP.y (by omega) (jG HR.out.symm HF.out.symm),HB.out⟩
theorem JX(a b f:Int)(p q:Nat)(w:World)(ha:U16 a)(hb:U16 b)(hf:U16 f)(hc:w.cell? ⟨p,0,none⟩=some (.func (.func 127) #[] #[.pointer (some ⟨q,0,none⟩)]))(hq:w.cell? ⟨q,0,none⟩=some (.func (.func 91) #[] #[])):
  Calls Tryz.prog 129 #[.int .u16 a,.int .u16 b,.int .u16 f,.pointer (some ⟨p,0,none⟩)] w fun e w'=>AP 41 a b f e∧Below w.heap.size w w':=by
 have HC:=Nc (G9 a b f q w ha hb hf hq);have HR:=Nc (show arR 41 a b f=a from rfl);have HF:=Nc (show arF 41 a b f=arF 37 a b f from rfl);obtain⟨r,hr⟩:∃ r,arR 37 a b f=r:=⟨_,rfl⟩;obtain⟨g,hg⟩:∃ g,arF 37 a b f=g:=⟨_,rfl⟩;have HC2:=Nc (HC.out.mono fun e w' h=>(⟨(AP.yes (by omega) h.1).trans (jG hr hg),h.2⟩:e= .returned (.tuple #[.int .u16 r,.int .u16 g])∧Below w.heap.size w w'));rw[hg] at HF;clear hr hg HC;go_enter Tryz.func129,Tryz.ntmps129
 go_wp2_with fail
 refine HC2.out.mono ?_;rintro e w1 ⟨rfl,hb1⟩;have HB:=Nc hb1;clear hb1;go_wp2_with fail
 go_ret2
 exact⟨AP.y (by omega) (jG HR.out.symm HF.out.symm),HB.out⟩
def Bxs(mp:Nat)(w:World)(L:List (Nat × Value × TypeId)):Prop:=∀ x∈L,w.heap[x.1]? =some (.cells #[x.2.1] x.2.2 (0,0))∧x.1≠mp
theorem Bxs.grown{mp:Nat}{w w':World}{L:List (Nat × Value × TypeId)}(h:Bxs mp w L)(hg:w.grownBy w' (some mp)):Bxs mp w' L:=fun x hx=>
 ⟨(hg.block _ (lt_of_block (h x hx).1) (by simpa using(h x hx).2)).trans (h x hx).1,(h x hx).2⟩
theorem Bxs.alloc{mp:Nat}{w:World}{L:List (Nat × Value × TypeId)}(h:Bxs mp w L)(o:Obj):Bxs mp (w.alloc o) L:=fun x hx=>⟨aj _ _ _ (h x hx).1,(h x hx).2⟩
theorem Bxs.put{mp:Nat}{w:World}{L:List (Nat × Value × TypeId)}(h:Bxs mp w L)(v:Value)(t:TypeId)(hm:mp < w.heap.size):Bxs mp (w.alloc (.cells #[v] t)) ((w.heap.size,v,t)::L):=by
 intro x hx;rcases List.mem_cons.1 hx with rfl|hx
 ·exact⟨heap_alloc_new w _,by simp;omega⟩
 ·exact h.alloc _ x hx
theorem dS(g:Fn)(cs:Array Value)(w:World):Calls Tryz.prog 90 #[.func g #[] cs] w fun e w'=>e= .returned (.func (.func 127) #[] #[.pointer (some ⟨w.heap.size,0,none⟩)])∧w.alloc (.cells #[.func g #[] cs] 105)=w':=by
 have hmf:∀ (fn:Fn) (first cap:Array Value) (w:World),(Instr.makeFunc fn first cap).run Tryz.prog w= .ok (.func fn first cap) w:=fun _ _ _ _=>rfl
 go_enter Tryz.func90,Tryz.ntmps90
 go_wp2_with fail
 go_ret
 exact⟨rfl,rfl⟩
theorem lg(g:Fn)(cs:Array Value)(w:World):Calls Tryz.prog 95 #[.func g #[] cs] w fun e w'=>e= .returned (.func (.func 129) #[] #[.pointer (some ⟨w.heap.size,0,none⟩)])∧w.alloc (.cells #[.func g #[] cs] 139)=w':=by
 have hmf:∀ (fn:Fn) (first cap:Array Value) (w:World),(Instr.makeFunc fn first cap).run Tryz.prog w= .ok (.func fn first cap) w:=fun _ _ _ _=>rfl
 go_enter Tryz.func95,Tryz.ntmps95
 go_wp2_with fail
 go_ret
 exact⟨rfl,rfl⟩
def opsV(pA p38 p39 p40 p41 p42 p43 p44 p45 p46 p19:Nat):Int→Value:=fun op=>
 if op=32 then .func (.func 92) #[] #[] else if op=33 then .func (.func 83) #[] #[] else if op=34 then .func (.func 85) #[] #[] else if op=35 then .func (.func 87) #[] #[] else if op=36 then .func (.func 89) #[] #[] else if op=37 then .func (.func 127) #[] #[.pointer (some ⟨pA,0,none⟩)] else if op=38 then .func (.func 127) #[] #[.pointer (some ⟨p38,0,none⟩)] else if op=39 then .func (.func 127) #[] #[.pointer (some ⟨p39,0,none⟩)] else if op=40 then .func (.func 129) #[] #[.pointer (some ⟨p40,0,none⟩)] else if op=41 then .func (.func 129) #[] #[.pointer (some ⟨p41,0,none⟩)] else if op=42 then .func (.func 127) #[] #[.pointer (some ⟨p42,0,none⟩)] else if op=43 then .func (.func 127) #[] #[.pointer (some ⟨p43,0,none⟩)] else if op=44 then .func (.func 127) #[] #[.pointer (some ⟨p44,0,none⟩)] else if op=45 then .func (.func 127) #[] #[.pointer (some ⟨p45,0,none⟩)] else if op=46 then .func (.func 127) #[] #[.pointer (some ⟨p46,0,none⟩)] else if op=18 then .func (.func 102) #[] #[] else if op=19 then .func (.func 127) #[] #[.pointer (some ⟨p19,0,none⟩)] else .nilFunc
def opsL(pA p38 p39 p40 p41 p42 p43 p44 p45 p46 p19:Nat):List (Nat × Value × TypeId):=[(pA,.func (.func 91) #[] #[],105),(p38,.func (.func 93) #[] #[],105),(p39,.func (.func 94) #[] #[],105),(p40,.func (.func 87) #[] #[],139),(p41,.func (.func 127) #[] #[.pointer (some ⟨pA,0,none⟩)],139),(p42,.func (.func 96) #[] #[],105),(p43,.func (.func 97) #[] #[],105),(p44,.func (.func 98) #[] #[],105),(p45,.func (.func 100) #[] #[],105),(p46,.func (.func 101) #[] #[],105),(p19,.func (.func 103) #[] #[],105)]
def LM(pA p38 p39 p40 p41 p42 p43 p44 p45 p46 p19:Nat):DataW Value:= .map [(.int .i64 18,.held (.func (.func 102) #[] #[])),(.int .i64 19,.held (.func (.func 127) #[] #[.pointer (some ⟨p19,0,none⟩)])),(.int .i64 32,.held (.func (.func 92) #[] #[])),(.int .i64 33,.held (.func (.func 83) #[] #[])),(.int .i64 34,.held (.func (.func 85) #[] #[])),(.int .i64 35,.held (.func (.func 87) #[] #[])),(.int .i64 36,.held (.func (.func 89) #[] #[])),(.int .i64 37,.held (.func (.func 127) #[] #[.pointer (some ⟨pA,0,none⟩)])),(.int .i64 38,.held (.func (.func 127) #[] #[.pointer (some ⟨p38,0,none⟩)])),(.int .i64 39,.held (.func (.func 127) #[] #[.pointer (some ⟨p39,0,none⟩)])),(.int .i64 40,.held (.func (.func 129) #[] #[.pointer (some ⟨p40,0,none⟩)])),(.int .i64 41,.held (.func (.func 129) #[] #[.pointer (some ⟨p41,0,none⟩)])),(.int .i64 42,.held (.func (.func 127) #[] #[.pointer (some ⟨p42,0,none⟩)])),(.int .i64 43,.held (.func (.func 127) #[] #[.pointer (some ⟨p43,0,none⟩)])),(.int .i64 44,.held (.func (.func 127) #[] #[.pointer (some ⟨p44,0,none⟩)])),(.int .i64 45,.held (.func (.func 127) #[] #[.pointer (some ⟨p45,0,none⟩)])),(.int .i64 46,.held (.func (.func 127) #[] #[.pointer (some ⟨p46,0,none⟩)]))]
theorem F8(pA p38 p39 p40 p41 p42 p43 p44 p45 p46 p19:Nat)(op:Int)(h:(18≤op∧op≤19)∨(32≤op∧op≤46)):(LM pA p38 p39 p40 p41 p42 p43 p44 p45 p46 p19).atKey (.int .i64 op) (.held .nilFunc)= .held (opsV pA p38 p39 p40 p41 p42 p43 p44 p45 p46 p19 op):=by
 rcases(show op=32∨op=33∨op=34∨op=35∨op=36∨op=37∨op=38∨op=39∨op=40∨op=41∨op=42∨op=43∨op=44∨op=45∨op=46∨op=18∨op=19 by omega) with rfl|rfl|rfl|rfl|rfl|rfl|rfl|rfl|rfl|rfl|rfl|rfl|rfl|rfl|rfl|rfl|rfl<;>kernel_rfl
structure Ops(w0 w1:World)(mp:Nat)(D:DataW Value)(F:Int→Value)(lo hi:Nat):Prop where
 own:w1.ownsMap Tryz.prog 3 bM mp 17 D
 m0:lo≤mp
 m1:mp < hi
 at_:∀ op,(18≤op∧op≤19)∨(32≤op∧op≤46)→D.atKey (.int .i64 op) (.held .nilFunc)= .held (F op)
 good:∀ op,(18≤op∧op≤19)∨(32≤op∧op≤46)→Good w1 lo hi op (F op)
theorem xC{w:World}{p:Nat}{v:Value}{t:TypeId}(h:w.heap[p]? =some (.cells #[v] t (0,0))):w.cell? ⟨p,0,none⟩=some v:=ae h 0 _ rfl
theorem CS(w1:World)(lo hi:Nat)(pA p38 p39 p40 p41 p42 p43 p44 p45 p46 p19:Nat)(mp:Nat)(h:Bxs mp w1 (opsL pA p38 p39 p40 p41 p42 p43 p44 p45 p46 p19))(hl:∀ x∈opsL pA p38 p39 p40 p41 p42 p43 p44 p45 p46 p19,lo≤x.1∧x.1 < hi)(op:Int)(ho:(18≤op∧op≤19)∨(32≤op∧op≤46)):Good w1 lo hi op (opsV pA p38 p39 p40 p41 p42 p43 p44 p45 p46 p19 op):=by
 have hc:∀ (W:World),(∀ k,lo≤k→k < hi→W.heap[k]? =w1.heap[k]?)→∀ x∈opsL pA p38 p39 p40 p41 p42 p43 p44 p45 p46 p19,W.cell? ⟨x.1,0,none⟩=some x.2.1:=fun W hW x hx=>xC ((hW _ (hl x hx).1 (hl x hx).2).trans (h x hx).1)
 rcases(show op=32∨op=33∨op=34∨op=35∨op=36∨op=37∨op=38∨op=39∨op=40∨op=41∨op=42∨op=43∨op=44∨op=45∨op=46∨op=18∨op=19 by omega) with rfl|rfl|rfl|rfl|rfl|rfl|rfl|rfl|rfl|rfl|rfl|rfl|rfl|rfl|rfl|rfl|rfl
 ·exact⟨_,_,rfl,fun _ _=>by kernel_rfl,fun W a b f hW ha hb hf=>J7 a b f W ha hb hf⟩
 ·exact⟨_,_,rfl,fun _ _=>by kernel_rfl,fun W a b f hW ha hb hf=>J6 a b f W ha hb hf⟩
 ·exact⟨_,_,rfl,fun _ _=>by kernel_rfl,fun W a b f hW ha hb hf=>J5 a b f W ha hb hf⟩
 ·exact⟨_,_,rfl,fun _ _=>by kernel_rfl,fun W a b f hW ha hb hf=>Ha a b f W ha hb hf⟩
 ·exact⟨_,_,rfl,fun _ _=>by kernel_rfl,fun W a b f hW ha hb hf=>J4 a b f W ha hb hf⟩
 ·exact⟨_,_,rfl,fun _ _=>by kernel_rfl,fun W a b f hW ha hb hf=>G9 a b f pA W ha hb hf (hc W hW (pA,.func (.func 91) #[] #[],105) (by unfold opsL;simp))⟩
 ·exact⟨_,_,rfl,fun _ _=>by kernel_rfl,fun W a b f hW ha hb hf=>J3 a b f p38 W ha hb hf (hc W hW (p38,.func (.func 93) #[] #[],105) (by unfold opsL;simp))⟩
 ·exact⟨_,_,rfl,fun _ _=>by kernel_rfl,fun W a b f hW ha hb hf=>JZ a b f p39 W ha hb hf (hc W hW (p39,.func (.func 94) #[] #[],105) (by unfold opsL;simp))⟩
 ·exact⟨_,_,rfl,fun _ _=>by kernel_rfl,fun W a b f hW ha hb hf=>JY a b f p40 W ha hb hf (hc W hW (p40,.func (.func 87) #[] #[],139) (by unfold opsL;simp))⟩
 ·exact⟨_,_,rfl,fun _ _=>by kernel_rfl,fun W a b f hW ha hb hf=>JX a b f p41 pA W ha hb hf (hc W hW (p41,.func (.func 127) #[] #[.pointer (some ⟨pA,0,none⟩)],139) (by unfold opsL;simp)) (hc W hW (pA,.func (.func 91) #[] #[],105) (by unfold opsL;simp))⟩
 ·exact⟨_,_,rfl,fun _ _=>by kernel_rfl,fun W a b f hW ha hb hf=>JW a b f p42 W ha hb hf (hc W hW (p42,.func (.func 96) #[] #[],105) (by unfold opsL;simp))⟩
 ·refine⟨_,_,rfl,fun _ _=>by kernel_rfl,fun W a b f hW ha hb hf=>?_⟩
  by_cases hz:b=0
  ·subst hz;exact IR a f p43 W (hc W hW (p43,.func (.func 97) #[] #[],105) (by unfold opsL;simp))
  ·exact JV a b f p43 W ha hb hf hz (hc W hW (p43,.func (.func 97) #[] #[],105) (by unfold opsL;simp))
 ·exact⟨_,_,rfl,fun _ _=>by kernel_rfl,fun W a b f hW ha hb hf=>JU a b f p44 W ha hb hf (hc W hW (p44,.func (.func 98) #[] #[],105) (by unfold opsL;simp))⟩
 ·exact⟨_,_,rfl,fun _ _=>by kernel_rfl,fun W a b f hW ha hb hf=>JS a b f p45 W ha hb hf (hc W hW (p45,.func (.func 100) #[] #[],105) (by unfold opsL;simp))⟩
 ·exact⟨_,_,rfl,fun _ _=>by kernel_rfl,fun W a b f hW ha hb hf=>JR a b f p46 W ha hb hf (hc W hW (p46,.func (.func 101) #[] #[],105) (by unfold opsL;simp))⟩
 ·exact⟨_,_,rfl,fun _ _=>by kernel_rfl,fun W a b f hW ha hb hf=>J9 a b f W ha hb hf⟩
 ·exact⟨_,_,rfl,fun _ _=>by kernel_rfl,fun W a b f hW ha hb hf=>J8 a b f p19 W ha hb hf (hc W hW (p19,.func (.func 103) #[] #[],105) (by unfold opsL;simp))⟩
theorem bW{w:World}{P:Program}{k:TypeId}{R:Value→Option (DataW Value × List MemPlace)}{b n m:Nat}{D D':DataW Value}(h:w.ownsMap P k R b n D)(hD:D=D')(hn:n=m):w.ownsMap P k R b m D':=hD▸hn▸h
theorem dD{B mp:Nat}{w w':World}(h:Below B w w')(hm:B≤mp){w2:World}(hg:w'.grownBy w2 (some mp))(hs:B≤w'.heap.size):Below B w w2:=h.grown hg hs (fun k hk=>by simp at hk;omega)
theorem qY(w:World):Calls Tryz.prog 58 #[] w fun e w'=>∃ mp D F,e= .returned (.map (some mp))∧Below w.heap.size w w'∧Ops w w' mp D F w.heap.size w'.heap.size:=by
 have hmm:=@run_makeMap Tryz.prog;go_enter Tryz.func58,Tryz.ntmps58
 go_wp2_with fail
 refine(dS (.func 91) #[] _).mono ?_;rintro e wa ⟨rfl,hwa⟩;obtain⟨pA,hpA⟩:∃ pA,w.heap.size=pA:=⟨_,rfl⟩;have hsa:wa.heap.size=pA+1:=by rw[← hwa,← hpA];simp
 have hba:Below pA w wa:=by rw[← hwa];exact(Below.refl _ w).alloc (by omega) _
 have hxa:wa.heap[pA]? =some (.cells #[.func (.func 91) #[] #[]] 105 (0,0)):=by rw[← hwa,← hpA];exact heap_alloc_new w _
 rw[hpA];have HPA:=Nc hpA;clear hpA hwa;have B0:=Nc (show Bxs (pA+1) (wa.alloc (.map #[] 0)) [(pA,.func (.func 91) #[] #[],105)] from fun x hx=>by
  simp at hx;subst hx;exact⟨aj _ _ _ hxa,by simp⟩)
 have O0:=Nc (show(wa.alloc (.map #[] 0)).ownsMap Tryz.prog 3 bM (pA+1) 0 (.map []) from hsa▸World.ownsMap_made wa Tryz.prog 3 bM);have L0:=Nc (show Below pA w (wa.alloc (.map #[] 0))∧pA+1 < (wa.alloc (.map #[] 0)).heap.size from⟨hba.alloc (by omega) _,by simp;omega⟩);clear hba hxa;go_wp2_with (with_reducible refine aP (H:=Value) _ 3 139 jR Tryz.underlying112 bM (pA+1) 0 (.map []) (.int .i64 32) (.func (.func 92) #[] #[]) (.int .i64 32) (.held (.func (.func 92) #[] #[])) [] ?o32 ?n32 ?h32 ?r32 ?m32 ?x32 ?v32 ?_)
 case o32=>exact O0.out
 case n32=>unfold maxLen;omega
 case h32=>exact Maps.keyOf_int_mk Tryz.underlying3 (by decide)
 case r32=>rfl
 case m32=>rfl
 case x32=>rfl
 case v32=>rfl
 intro w1 hown hg;have O1:=Nc (bW (D':= .map [(.int .i64 32,.held (.func (.func 92) #[] #[]))]) (m:=1) hown rfl rfl);have B1:=Nc (B0.out.grown hg);have L1:=Nc (show Below pA w w1∧pA+1 < w1.heap.size from⟨dD L0.out.1 (Nat.le_succ _) hg (by have:=L0.out.2;omega),by have:=L0.out.2;have:=hg.size;omega⟩);clear hown hg;go_wp2_with (with_reducible refine aP (H:=Value) _ 3 139 jR Tryz.underlying112 bM (pA+1) 1 (.map [(.int .i64 32,.held (.func (.func 92) #[] #[]))]) (.int .i64 33) (.func (.func 83) #[] #[]) (.int .i64 33) (.held (.func (.func 83) #[] #[])) [] ?o33 ?n33 ?h33 ?r33 ?m33 ?x33 ?v33 ?_)
 case o33=>exact O1.out
 case n33=>unfold maxLen;omega
 case h33=>exact Maps.keyOf_int_mk Tryz.underlying3 (by decide)
 case r33=>rfl
 case m33=>rfl
 case x33=>rfl
 case v33=>rfl
 intro w2 hown hg;have O2:=Nc (bW (D':= .map [(.int .i64 32,.held (.func (.func 92) #[] #[])),(.int .i64 33,.held (.func (.func 83) #[] #[]))]) (m:=2) hown rfl rfl);have B2:=Nc (B1.out.grown hg);have L2:=Nc (show Below pA w w2∧pA+1 < w2.heap.size from⟨dD L1.out.1 (Nat.le_succ _) hg (by have:=L1.out.2;omega),by have:=L1.out.2;have:=hg.size;omega⟩);clear hown hg;go_wp2_with (with_reducible refine aP (H:=Value) _ 3 139 jR Tryz.underlying112 bM (pA+1) 2 (.map [(.int .i64 32,.held (.func (.func 92) #[] #[])),(.int .i64 33,.held (.func (.func 83) #[] #[]))]) (.int .i64 34) (.func (.func 85) #[] #[]) (.int .i64 34) (.held (.func (.func 85) #[] #[])) [] ?o34 ?n34 ?h34 ?r34 ?m34 ?x34 ?v34 ?_)
 case o34=>exact O2.out
 case n34=>unfold maxLen;omega
 case h34=>exact Maps.keyOf_int_mk Tryz.underlying3 (by decide)
 case r34=>rfl
 case m34=>rfl
 case x34=>rfl
 case v34=>rfl
 intro w3 hown hg;have O3:=Nc (bW (D':= .map [(.int .i64 32,.held (.func (.func 92) #[] #[])),(.int .i64 33,.held (.func (.func 83) #[] #[])),(.int .i64 34,.held (.func (.func 85) #[] #[]))]) (m:=3) hown rfl rfl);have B3:=Nc (B2.out.grown hg);have L3:=Nc (show Below pA w w3∧pA+1 < w3.heap.size from⟨dD L2.out.1 (Nat.le_succ _) hg (by have:=L2.out.2;omega),by have:=L2.out.2;have:=hg.size;omega⟩);clear hown hg;go_wp2_with (with_reducible refine aP (H:=Value) _ 3 139 jR Tryz.underlying112 bM (pA+1) 3 (.map [(.int .i64 32,.held (.func (.func 92) #[] #[])),(.int .i64 33,.held (.func (.func 83) #[] #[])),(.int .i64 34,.held (.func (.func 85) #[] #[]))]) (.int .i64 35) (.func (.func 87) #[] #[]) (.int .i64 35) (.held (.func (.func 87) #[] #[])) [] ?o35 ?n35 ?h35 ?r35 ?m35 ?x35 ?v35 ?_)
 case o35=>exact O3.out
 case n35=>unfold maxLen;omega
 case h35=>exact Maps.keyOf_int_mk Tryz.underlying3 (by decide)
 case r35=>rfl
 case m35=>rfl
 case x35=>rfl
 case v35=>rfl
 intro w4 hown hg;have O4:=Nc (bW (D':= .map [(.int .i64 32,.held (.func (.func 92) #[] #[])),(.int .i64 33,.held (.func (.func 83) #[] #[])),(.int .i64 34,.held (.func (.func 85) #[] #[])),(.int .i64 35,.held (.func (.func 87) #[] #[]))]) (m:=4) hown rfl rfl);have B4:=Nc (B3.out.grown hg);have L4:=Nc (show Below pA w w4∧pA+1 < w4.heap.size from⟨dD L3.out.1 (Nat.le_succ _) hg (by have:=L3.out.2;omega),by have:=L3.out.2;have:=hg.size;omega⟩);clear hown hg;go_wp2_with (with_reducible refine aP (H:=Value) _ 3 139 jR Tryz.underlying112 bM (pA+1) 4 (.map [(.int .i64 32,.held (.func (.func 92) #[] #[])),(.int .i64 33,.held (.func (.func 83) #[] #[])),(.int .i64 34,.held (.func (.func 85) #[] #[])),(.int .i64 35,.held (.func (.func 87) #[] #[]))]) (.int .i64 36) (.func (.func 89) #[] #[]) (.int .i64 36) (.held (.func (.func 89) #[] #[])) [] ?o36 ?n36 ?h36 ?r36 ?m36 ?x36 ?v36 ?_)
 case o36=>exact O4.out
 case n36=>unfold maxLen;omega
 case h36=>exact Maps.keyOf_int_mk Tryz.underlying3 (by decide)
 case r36=>rfl
 case m36=>rfl
 case x36=>rfl
 case v36=>rfl
 intro w5 hown hg;have O5:=Nc (bW (D':= .map [(.int .i64 32,.held (.func (.func 92) #[] #[])),(.int .i64 33,.held (.func (.func 83) #[] #[])),(.int .i64 34,.held (.func (.func 85) #[] #[])),(.int .i64 35,.held (.func (.func 87) #[] #[])),(.int .i64 36,.held (.func (.func 89) #[] #[]))]) (m:=5) hown rfl rfl);have B5:=Nc (B4.out.grown hg);have L5:=Nc (show Below pA w w5∧pA+1 < w5.heap.size from⟨dD L4.out.1 (Nat.le_succ _) hg (by have:=L4.out.2;omega),by have:=L4.out.2;have:=hg.size;omega⟩);clear hown hg;go_wp2_with (with_reducible refine aP (H:=Value) _ 3 139 jR Tryz.underlying112 bM (pA+1) 5 (.map [(.int .i64 32,.held (.func (.func 92) #[] #[])),(.int .i64 33,.held (.func (.func 83) #[] #[])),(.int .i64 34,.held (.func (.func 85) #[] #[])),(.int .i64 35,.held (.func (.func 87) #[] #[])),(.int .i64 36,.held (.func (.func 89) #[] #[]))]) (.int .i64 37) (.func (.func 127) #[] #[.pointer (some ⟨pA,0,none⟩)]) (.int .i64 37) (.held (.func (.func 127) #[] #[.pointer (some ⟨pA,0,none⟩)])) [] ?o37 ?n37 ?h37 ?r37 ?m37 ?x37 ?v37 ?_)
 case o37=>exact O5.out
 case n37=>unfold maxLen;omega
 case h37=>exact Maps.keyOf_int_mk Tryz.underlying3 (by decide)
 case r37=>rfl
 case m37=>rfl
 case x37=>rfl
 case v37=>rfl
 intro w6 hown hg;have O6:=Nc (bW (D':= .map [(.int .i64 32,.held (.func (.func 92) #[] #[])),(.int .i64 33,.held (.func (.func 83) #[] #[])),(.int .i64 34,.held (.func (.func 85) #[] #[])),(.int .i64 35,.held (.func (.func 87) #[] #[])),(.int .i64 36,.held (.func (.func 89) #[] #[])),(.int .i64 37,.held (.func (.func 127) #[] #[.pointer (some ⟨pA,0,none⟩)]))]) (m:=6) hown rfl rfl);have B6:=Nc (B5.out.grown hg);have L6:=Nc (show Below pA w w6∧pA+1 < w6.heap.size from⟨dD L5.out.1 (Nat.le_succ _) hg (by have:=L5.out.2;omega),by have:=L5.out.2;have:=hg.size;omega⟩);clear hown hg;go_wp2_with fail
 refine(dS (.func 93) #[] _).mono ?_;rintro e wx38 ⟨rfl,hwx⟩;obtain⟨p38,hp38⟩:∃ p,w6.heap.size=p:=⟨_,rfl⟩;have X38:=Nc (show Bxs (pA+1) wx38 ((p38,.func (.func 93) #[] #[],105)::[(pA,.func (.func 91) #[] #[],105)]) from hp38▸hwx▸B6.out.put _ _ L6.out.2);have Y38:=Nc (show wx38.ownsMap Tryz.prog 3 bM (pA+1) 6 (.map [(.int .i64 32,.held (.func (.func 92) #[] #[])),(.int .i64 33,.held (.func (.func 83) #[] #[])),(.int .i64 34,.held (.func (.func 85) #[] #[])),(.int .i64 35,.held (.func (.func 87) #[] #[])),(.int .i64 36,.held (.func (.func 89) #[] #[])),(.int .i64 37,.held (.func (.func 127) #[] #[.pointer (some ⟨pA,0,none⟩)]))]) from hwx▸O6.out.alloc _);have Z38:=Nc (show Below pA w wx38∧pA+1 < wx38.heap.size∧p38 < wx38.heap.size∧pA≤p38 from hwx▸⟨L6.out.1.alloc (by have:=L6.out.2;omega) _,by have:=L6.out.2;simp;omega,by simp;omega,by have:=L6.out.2;omega⟩);rw[hp38];have S38:=Nc (show w6.heap.size≤wx38.heap.size from by rw[← hwx];simp);clear hwx hp38;go_wp2_with (with_reducible refine aP (H:=Value) _ 3 139 jR Tryz.underlying112 bM (pA+1) 6 (.map [(.int .i64 32,.held (.func (.func 92) #[] #[])),(.int .i64 33,.held (.func (.func 83) #[] #[])),(.int .i64 34,.held (.func (.func 85) #[] #[])),(.int .i64 35,.held (.func (.func 87) #[] #[])),(.int .i64 36,.held (.func (.func 89) #[] #[])),(.int .i64 37,.held (.func (.func 127) #[] #[.pointer (some ⟨pA,0,none⟩)]))]) (.int .i64 38) (.func (.func 127) #[] #[.pointer (some ⟨p38,0,none⟩)]) (.int .i64 38) (.held (.func (.func 127) #[] #[.pointer (some ⟨p38,0,none⟩)])) [] ?o38 ?n38 ?h38 ?r38 ?m38 ?x38 ?v38 ?_)
 case o38=>exact Y38.out
 case n38=>unfold maxLen;omega
 case h38=>exact Maps.keyOf_int_mk Tryz.underlying3 (by decide)
 case r38=>rfl
 case m38=>rfl
 case x38=>rfl
 case v38=>rfl
 intro w7 hown hg;have O7:=Nc (bW (D':= .map [(.int .i64 32,.held (.func (.func 92) #[] #[])),(.int .i64 33,.held (.func (.func 83) #[] #[])),(.int .i64 34,.held (.func (.func 85) #[] #[])),(.int .i64 35,.held (.func (.func 87) #[] #[])),(.int .i64 36,.held (.func (.func 89) #[] #[])),(.int .i64 37,.held (.func (.func 127) #[] #[.pointer (some ⟨pA,0,none⟩)])),(.int .i64 38,.held (.func (.func 127) #[] #[.pointer (some ⟨p38,0,none⟩)]))]) (m:=7) hown rfl rfl);have B7:=Nc (X38.out.grown hg);have L7:=Nc (show Below pA w w7∧pA+1 < w7.heap.size from⟨dD Z38.out.1 (Nat.le_succ _) hg (by have:=Z38.out.2.1;omega),by have:=Z38.out.2.1;have:=hg.size;omega⟩);have Q38_7:=Nc (show p38 < w7.heap.size from by have:=Z38.out.2.2.1;have:=hg.size;omega);clear hown hg;go_wp2_with fail
 refine(dS (.func 94) #[] _).mono ?_;rintro e wx39 ⟨rfl,hwx⟩;obtain⟨p39,hp39⟩:∃ p,w7.heap.size=p:=⟨_,rfl⟩;have X39:=Nc (show Bxs (pA+1) wx39 ((p39,.func (.func 94) #[] #[],105)::((p38,.func (.func 93) #[] #[],105)::[(pA,.func (.func 91) #[] #[],105)])) from hp39▸hwx▸B7.out.put _ _ L7.out.2);have Y39:=Nc (show wx39.ownsMap Tryz.prog 3 bM (pA+1) 7 (.map [(.int .i64 32,.held (.func (.func 92) #[] #[])),(.int .i64 33,.held (.func (.func 83) #[] #[])),(.int .i64 34,.held (.func (.func 85) #[] #[])),(.int .i64 35,.held (.func (.func 87) #[] #[])),(.int .i64 36,.held (.func (.func 89) #[] #[])),(.int .i64 37,.held (.func (.func 127) #[] #[.pointer (some ⟨pA,0,none⟩)])),(.int .i64 38,.held (.func (.func 127) #[] #[.pointer (some ⟨p38,0,none⟩)]))]) from hwx▸O7.out.alloc _);have Z39:=Nc (show Below pA w wx39∧pA+1 < wx39.heap.size∧p39 < wx39.heap.size∧pA≤p39 from hwx▸⟨L7.out.1.alloc (by have:=L7.out.2;omega) _,by have:=L7.out.2;simp;omega,by simp;omega,by have:=L7.out.2;omega⟩);rw[hp39];have S39:=Nc (show w7.heap.size≤wx39.heap.size from by rw[← hwx];simp);clear hwx hp39;go_wp2_with (with_reducible refine aP (H:=Value) _ 3 139 jR Tryz.underlying112 bM (pA+1) 7 (.map [(.int .i64 32,.held (.func (.func 92) #[] #[])),(.int .i64 33,.held (.func (.func 83) #[] #[])),(.int .i64 34,.held (.func (.func 85) #[] #[])),(.int .i64 35,.held (.func (.func 87) #[] #[])),(.int .i64 36,.held (.func (.func 89) #[] #[])),(.int .i64 37,.held (.func (.func 127) #[] #[.pointer (some ⟨pA,0,none⟩)])),(.int .i64 38,.held (.func (.func 127) #[] #[.pointer (some ⟨p38,0,none⟩)]))]) (.int .i64 39) (.func (.func 127) #[] #[.pointer (some ⟨p39,0,none⟩)]) (.int .i64 39) (.held (.func (.func 127) #[] #[.pointer (some ⟨p39,0,none⟩)])) [] ?o39 ?n39 ?h39 ?r39 ?m39 ?x39 ?v39 ?_)
 case o39=>exact Y39.out
 case n39=>unfold maxLen;omega
 case h39=>exact Maps.keyOf_int_mk Tryz.underlying3 (by decide)
 case r39=>rfl
 case m39=>rfl
 case x39=>rfl
 case v39=>rfl
 intro w8 hown hg;have O8:=Nc (bW (D':= .map [(.int .i64 32,.held (.func (.func 92) #[] #[])),(.int .i64 33,.held (.func (.func 83) #[] #[])),(.int .i64 34,.held (.func (.func 85) #[] #[])),(.int .i64 35,.held (.func (.func 87) #[] #[])),(.int .i64 36,.held (.func (.func 89) #[] #[])),(.int .i64 37,.held (.func (.func 127) #[] #[.pointer (some ⟨pA,0,none⟩)])),(.int .i64 38,.held (.func (.func 127) #[] #[.pointer (some ⟨p38,0,none⟩)])),(.int .i64 39,.held (.func (.func 127) #[] #[.pointer (some ⟨p39,0,none⟩)]))]) (m:=8) hown rfl rfl);have B8:=Nc (X39.out.grown hg);have L8:=Nc (show Below pA w w8∧pA+1 < w8.heap.size from⟨dD Z39.out.1 (Nat.le_succ _) hg (by have:=Z39.out.2.1;omega),by have:=Z39.out.2.1;have:=hg.size;omega⟩);have Q38_8:=Nc (show p38 < w8.heap.size from by have:=Q38_7.out;have:=hg.size;have:=Z39.out.2;have h9:=S39.out;omega);have Q39_8:=Nc (show p39 < w8.heap.size from by have:=Z39.out.2.2.1;have:=hg.size;omega);clear hown hg;go_wp2_with fail
 refine(lg (.func 87) #[] _).mono ?_;rintro e wx40 ⟨rfl,hwx⟩;obtain⟨p40,hp40⟩:∃ p,w8.heap.size=p:=⟨_,rfl⟩;have X40:=Nc (show Bxs (pA+1) wx40 ((p40,.func (.func 87) #[] #[],139)::((p39,.func (.func 94) #[] #[],105)::((p38,.func (.func 93) #[] #[],105)::[(pA,.func (.func 91) #[] #[],105)]))) from hp40▸hwx▸B8.out.put _ _ L8.out.2);have Y40:=Nc (show wx40.ownsMap Tryz.prog 3 bM (pA+1) 8 (.map [(.int .i64 32,.held (.func (.func 92) #[] #[])),(.int .i64 33,.held (.func (.func 83) #[] #[])),(.int .i64 34,.held (.func (.func 85) #[] #[])),(.int .i64 35,.held (.func (.func 87) #[] #[])),(.int .i64 36,.held (.func (.func 89) #[] #[])),(.int .i64 37,.held (.func (.func 127) #[] #[.pointer (some ⟨pA,0,none⟩)])),(.int .i64 38,.held (.func (.func 127) #[] #[.pointer (some ⟨p38,0,none⟩)])),(.int .i64 39,.held (.func (.func 127) #[] #[.pointer (some ⟨p39,0,none⟩)]))]) from hwx▸O8.out.alloc _);have Z40:=Nc (show Below pA w wx40∧pA+1 < wx40.heap.size∧p40 < wx40.heap.size∧pA≤p40 from hwx▸⟨L8.out.1.alloc (by have:=L8.out.2;omega) _,by have:=L8.out.2;simp;omega,by simp;omega,by have:=L8.out.2;omega⟩);rw[hp40];have S40:=Nc (show w8.heap.size≤wx40.heap.size from by rw[← hwx];simp);clear hwx hp40;go_wp2_with (with_reducible refine aP (H:=Value) _ 3 139 jR Tryz.underlying112 bM (pA+1) 8 (.map [(.int .i64 32,.held (.func (.func 92) #[] #[])),(.int .i64 33,.held (.func (.func 83) #[] #[])),(.int .i64 34,.held (.func (.func 85) #[] #[])),(.int .i64 35,.held (.func (.func 87) #[] #[])),(.int .i64 36,.held (.func (.func 89) #[] #[])),(.int .i64 37,.held (.func (.func 127) #[] #[.pointer (some ⟨pA,0,none⟩)])),(.int .i64 38,.held (.func (.func 127) #[] #[.pointer (some ⟨p38,0,none⟩)])),(.int .i64 39,.held (.func (.func 127) #[] #[.pointer (some ⟨p39,0,none⟩)]))]) (.int .i64 40) (.func (.func 129) #[] #[.pointer (some ⟨p40,0,none⟩)]) (.int .i64 40) (.held (.func (.func 129) #[] #[.pointer (some ⟨p40,0,none⟩)])) [] ?o40 ?n40 ?h40 ?r40 ?m40 ?x40 ?v40 ?_)
 case o40=>exact Y40.out
 case n40=>unfold maxLen;omega
 case h40=>exact Maps.keyOf_int_mk Tryz.underlying3 (by decide)
 case r40=>rfl
 case m40=>rfl
 case x40=>rfl
 case v40=>rfl
 intro w9 hown hg;have O9:=Nc (bW (D':= .map [(.int .i64 32,.held (.func (.func 92) #[] #[])),(.int .i64 33,.held (.func (.func 83) #[] #[])),(.int .i64 34,.held (.func (.func 85) #[] #[])),(.int .i64 35,.held (.func (.func 87) #[] #[])),(.int .i64 36,.held (.func (.func 89) #[] #[])),(.int .i64 37,.held (.func (.func 127) #[] #[.pointer (some ⟨pA,0,none⟩)])),(.int .i64 38,.held (.func (.func 127) #[] #[.pointer (some ⟨p38,0,none⟩)])),(.int .i64 39,.held (.func (.func 127) #[] #[.pointer (some ⟨p39,0,none⟩)])),(.int .i64 40,.held (.func (.func 129) #[] #[.pointer (some ⟨p40,0,none⟩)]))]) (m:=9) hown rfl rfl);have B9:=Nc (X40.out.grown hg);have L9:=Nc (show Below pA w w9∧pA+1 < w9.heap.size from⟨dD Z40.out.1 (Nat.le_succ _) hg (by have:=Z40.out.2.1;omega),by have:=Z40.out.2.1;have:=hg.size;omega⟩);have Q38_9:=Nc (show p38 < w9.heap.size from by have:=Q38_8.out;have:=hg.size;have:=Z40.out.2;have h9:=S40.out;omega);have Q39_9:=Nc (show p39 < w9.heap.size from by have:=Q39_8.out;have:=hg.size;have:=Z40.out.2;have h9:=S40.out;omega);have Q40_9:=Nc (show p40 < w9.heap.size from by have:=Z40.out.2.2.1;have:=hg.size;omega);clear hown hg;go_wp2_with fail
 refine(lg (.func 127) #[.pointer (some ⟨pA,0,none⟩)] _).mono ?_;rintro e wx41 ⟨rfl,hwx⟩;obtain⟨p41,hp41⟩:∃ p,w9.heap.size=p:=⟨_,rfl⟩;have X41:=Nc (show Bxs (pA+1) wx41 ((p41,.func (.func 127) #[] #[.pointer (some ⟨pA,0,none⟩)],139)::((p40,.func (.func 87) #[] #[],139)::((p39,.func (.func 94) #[] #[],105)::((p38,.func (.func 93) #[] #[],105)::[(pA,.func (.func 91) #[] #[],105)])))) from hp41▸hwx▸B9.out.put _ _ L9.out.2);have Y41:=Nc (show wx41.ownsMap Tryz.prog 3 bM (pA+1) 9 (.map [(.int .i64 32,.held (.func (.func 92) #[] #[])),(.int .i64 33,.held (.func (.func 83) #[] #[])),(.int .i64 34,.held (.func (.func 85) #[] #[])),(.int .i64 35,.held (.func (.func 87) #[] #[])),(.int .i64 36,.held (.func (.func 89) #[] #[])),(.int .i64 37,.held (.func (.func 127) #[] #[.pointer (some ⟨pA,0,none⟩)])),(.int .i64 38,.held (.func (.func 127) #[] #[.pointer (some ⟨p38,0,none⟩)])),(.int .i64 39,.held (.func (.func 127) #[] #[.pointer (some ⟨p39,0,none⟩)])),(.int .i64 40,.held (.func (.func 129) #[] #[.pointer (some ⟨p40,0,none⟩)]))]) from hwx▸O9.out.alloc _);have Z41:=Nc (show Below pA w wx41∧pA+1 < wx41.heap.size∧p41 < wx41.heap.size∧pA≤p41 from hwx▸⟨L9.out.1.alloc (by have:=L9.out.2;omega) _,by have:=L9.out.2;simp;omega,by simp;omega,by have:=L9.out.2;omega⟩);rw[hp41];have S41:=Nc (show w9.heap.size≤wx41.heap.size from by rw[← hwx];simp);clear hwx hp41;go_wp2_with (with_reducible refine aP (H:=Value) _ 3 139 jR Tryz.underlying112 bM (pA+1) 9 (.map [(.int .i64 32,.held (.func (.func 92) #[] #[])),(.int .i64 33,.held (.func (.func 83) #[] #[])),(.int .i64 34,.held (.func (.func 85) #[] #[])),(.int .i64 35,.held (.func (.func 87) #[] #[])),(.int .i64 36,.held (.func (.func 89) #[] #[])),(.int .i64 37,.held (.func (.func 127) #[] #[.pointer (some ⟨pA,0,none⟩)])),(.int .i64 38,.held (.func (.func 127) #[] #[.pointer (some ⟨p38,0,none⟩)])),(.int .i64 39,.held (.func (.func 127) #[] #[.pointer (some ⟨p39,0,none⟩)])),(.int .i64 40,.held (.func (.func 129) #[] #[.pointer (some ⟨p40,0,none⟩)]))]) (.int .i64 41) (.func (.func 129) #[] #[.pointer (some ⟨p41,0,none⟩)]) (.int .i64 41) (.held (.func (.func 129) #[] #[.pointer (some ⟨p41,0,none⟩)])) [] ?o41 ?n41 ?h41 ?r41 ?m41 ?x41 ?v41 ?_)
 case o41=>exact Y41.out
 case n41=>unfold maxLen;omega
 case h41=>exact Maps.keyOf_int_mk Tryz.underlying3 (by decide)
 case r41=>rfl
 case m41=>rfl
 case x41=>rfl
 case v41=>rfl
 intro w10 hown hg;have O10:=Nc (bW (D':= .map [(.int .i64 32,.held (.func (.func 92) #[] #[])),(.int .i64 33,.held (.func (.func 83) #[] #[])),(.int .i64 34,.held (.func (.func 85) #[] #[])),(.int .i64 35,.held (.func (.func 87) #[] #[])),(.int .i64 36,.held (.func (.func 89) #[] #[])),(.int .i64 37,.held (.func (.func 127) #[] #[.pointer (some ⟨pA,0,none⟩)])),(.int .i64 38,.held (.func (.func 127) #[] #[.pointer (some ⟨p38,0,none⟩)])),(.int .i64 39,.held (.func (.func 127) #[] #[.pointer (some ⟨p39,0,none⟩)])),(.int .i64 40,.held (.func (.func 129) #[] #[.pointer (some ⟨p40,0,none⟩)])),(.int .i64 41,.held (.func (.func 129) #[] #[.pointer (some ⟨p41,0,none⟩)]))]) (m:=10) hown rfl rfl);have B10:=Nc (X41.out.grown hg);have L10:=Nc (show Below pA w w10∧pA+1 < w10.heap.size from⟨dD Z41.out.1 (Nat.le_succ _) hg (by have:=Z41.out.2.1;omega),by have:=Z41.out.2.1;have:=hg.size;omega⟩);have Q38_10:=Nc (show p38 < w10.heap.size from by have:=Q38_9.out;have:=hg.size;have:=Z41.out.2;have h9:=S41.out;omega);have Q39_10:=Nc (show p39 < w10.heap.size from by have:=Q39_9.out;have:=hg.size;have:=Z41.out.2;have h9:=S41.out;omega);have Q40_10:=Nc (show p40 < w10.heap.size from by have:=Q40_9.out;have:=hg.size;have:=Z41.out.2;have h9:=S41.out;omega);have Q41_10:=Nc (show p41 < w10.heap.size from by have:=Z41.out.2.2.1;have:=hg.size;omega);clear hown hg;go_wp2_with fail
 refine(dS (.func 96) #[] _).mono ?_;rintro e wx42 ⟨rfl,hwx⟩;obtain⟨p42,hp42⟩:∃ p,w10.heap.size=p:=⟨_,rfl⟩;have X42:=Nc (show Bxs (pA+1) wx42 ((p42,.func (.func 96) #[] #[],105)::((p41,.func (.func 127) #[] #[.pointer (some ⟨pA,0,none⟩)],139)::((p40,.func (.func 87) #[] #[],139)::((p39,.func (.func 94) #[] #[],105)::((p38,.func (.func 93) #[] #[],105)::[(pA,.func (.func 91) #[] #[],105)]))))) from hp42▸hwx▸B10.out.put _ _ L10.out.2);have Y42:=Nc (show wx42.ownsMap Tryz.prog 3 bM (pA+1) 10 (.map [(.int .i64 32,.held (.func (.func 92) #[] #[])),(.int .i64 33,.held (.func (.func 83) #[] #[])),(.int .i64 34,.held (.func (.func 85) #[] #[])),(.int .i64 35,.held (.func (.func 87) #[] #[])),(.int .i64 36,.held (.func (.func 89) #[] #[])),(.int .i64 37,.held (.func (.func 127) #[] #[.pointer (some ⟨pA,0,none⟩)])),(.int .i64 38,.held (.func (.func 127) #[] #[.pointer (some ⟨p38,0,none⟩)])),(.int .i64 39,.held (.func (.func 127) #[] #[.pointer (some ⟨p39,0,none⟩)])),(.int .i64 40,.held (.func (.func 129) #[] #[.pointer (some ⟨p40,0,none⟩)])),(.int .i64 41,.held (.func (.func 129) #[] #[.pointer (some ⟨p41,0,none⟩)]))]) from hwx▸O10.out.alloc _);have Z42:=Nc (show Below pA w wx42∧pA+1 < wx42.heap.size∧p42 < wx42.heap.size∧pA≤p42 from hwx▸⟨L10.out.1.alloc (by have:=L10.out.2;omega) _,by have:=L10.out.2;simp;omega,by simp;omega,by have:=L10.out.2;omega⟩);rw[hp42];have S42:=Nc (show w10.heap.size≤wx42.heap.size from by rw[← hwx];simp);clear hwx hp42;go_wp2_with (with_reducible refine aP (H:=Value) _ 3 139 jR Tryz.underlying112 bM (pA+1) 10 (.map [(.int .i64 32,.held (.func (.func 92) #[] #[])),(.int .i64 33,.held (.func (.func 83) #[] #[])),(.int .i64 34,.held (.func (.func 85) #[] #[])),(.int .i64 35,.held (.func (.func 87) #[] #[])),(.int .i64 36,.held (.func (.func 89) #[] #[])),(.int .i64 37,.held (.func (.func 127) #[] #[.pointer (some ⟨pA,0,none⟩)])),(.int .i64 38,.held (.func (.func 127) #[] #[.pointer (some ⟨p38,0,none⟩)])),(.int .i64 39,.held (.func (.func 127) #[] #[.pointer (some ⟨p39,0,none⟩)])),(.int .i64 40,.held (.func (.func 129) #[] #[.pointer (some ⟨p40,0,none⟩)])),(.int .i64 41,.held (.func (.func 129) #[] #[.pointer (some ⟨p41,0,none⟩)]))]) (.int .i64 42) (.func (.func 127) #[] #[.pointer (some ⟨p42,0,none⟩)]) (.int .i64 42) (.held (.func (.func 127) #[] #[.pointer (some ⟨p42,0,none⟩)])) [] ?o42 ?n42 ?h42 ?r42 ?m42 ?x42 ?v42 ?_)
 case o42=>exact Y42.out
 case n42=>unfold maxLen;omega
 case h42=>exact Maps.keyOf_int_mk Tryz.underlying3 (by decide)
 case r42=>rfl
 case m42=>rfl
 case x42=>rfl
 case v42=>rfl
 intro w11 hown hg;have O11:=Nc (bW (D':= .map [(.int .i64 32,.held (.func (.func 92) #[] #[])),(.int .i64 33,.held (.func (.func 83) #[] #[])),(.int .i64 34,.held (.func (.func 85) #[] #[])),(.int .i64 35,.held (.func (.func 87) #[] #[])),(.int .i64 36,.held (.func (.func 89) #[] #[])),(.int .i64 37,.held (.func (.func 127) #[] #[.pointer (some ⟨pA,0,none⟩)])),(.int .i64 38,.held (.func (.func 127) #[] #[.pointer (some ⟨p38,0,none⟩)])),(.int .i64 39,.held (.func (.func 127) #[] #[.pointer (some ⟨p39,0,none⟩)])),(.int .i64 40,.held (.func (.func 129) #[] #[.pointer (some ⟨p40,0,none⟩)])),(.int .i64 41,.held (.func (.func 129) #[] #[.pointer (some ⟨p41,0,none⟩)])),(.int .i64 42,.held (.func (.func 127) #[] #[.pointer (some ⟨p42,0,none⟩)]))]) (m:=11) hown rfl rfl);have B11:=Nc (X42.out.grown hg);have L11:=Nc (show Below pA w w11∧pA+1 < w11.heap.size from⟨dD Z42.out.1 (Nat.le_succ _) hg (by have:=Z42.out.2.1;omega),by have:=Z42.out.2.1;have:=hg.size;omega⟩);have Q38_11:=Nc (show p38 < w11.heap.size from by have:=Q38_10.out;have:=hg.size;have:=Z42.out.2;have h9:=S42.out;omega);have Q39_11:=Nc (show p39 < w11.heap.size from by have:=Q39_10.out;have:=hg.size;have:=Z42.out.2;have h9:=S42.out;omega);have Q40_11:=Nc (show p40 < w11.heap.size from by have:=Q40_10.out;have:=hg.size;have:=Z42.out.2;have h9:=S42.out;omega);have Q41_11:=Nc (show p41 < w11.heap.size from by have:=Q41_10.out;have:=hg.size;have:=Z42.out.2;have h9:=S42.out;omega);have Q42_11:=Nc (show p42 < w11.heap.size from by have:=Z42.out.2.2.1;have:=hg.size;omega);clear hown hg;go_wp2_with fail
 refine(dS (.func 97) #[] _).mono ?_;rintro e wx43 ⟨rfl,hwx⟩;obtain⟨p43,hp43⟩:∃ p,w11.heap.size=p:=⟨_,rfl⟩;have X43:=Nc (show Bxs (pA+1) wx43 ((p43,.func (.func 97) #[] #[],105)::((p42,.func (.func 96) #[] #[],105)::((p41,.func (.func 127) #[] #[.pointer (some ⟨pA,0,none⟩)],139)::((p40,.func (.func 87) #[] #[],139)::((p39,.func (.func 94) #[] #[],105)::((p38,.func (.func 93) #[] #[],105)::[(pA,.func (.func 91) #[] #[],105)])))))) from hp43▸hwx▸B11.out.put _ _ L11.out.2);have Y43:=Nc (show wx43.ownsMap Tryz.prog 3 bM (pA+1) 11 (.map [(.int .i64 32,.held (.func (.func 92) #[] #[])),(.int .i64 33,.held (.func (.func 83) #[] #[])),(.int .i64 34,.held (.func (.func 85) #[] #[])),(.int .i64 35,.held (.func (.func 87) #[] #[])),(.int .i64 36,.held (.func (.func 89) #[] #[])),(.int .i64 37,.held (.func (.func 127) #[] #[.pointer (some ⟨pA,0,none⟩)])),(.int .i64 38,.held (.func (.func 127) #[] #[.pointer (some ⟨p38,0,none⟩)])),(.int .i64 39,.held (.func (.func 127) #[] #[.pointer (some ⟨p39,0,none⟩)])),(.int .i64 40,.held (.func (.func 129) #[] #[.pointer (some ⟨p40,0,none⟩)])),(.int .i64 41,.held (.func (.func 129) #[] #[.pointer (some ⟨p41,0,none⟩)])),(.int .i64 42,.held (.func (.func 127) #[] #[.pointer (some ⟨p42,0,none⟩)]))]) from hwx▸O11.out.alloc _);have Z43:=Nc (show Below pA w wx43∧pA+1 < wx43.heap.size∧p43 < wx43.heap.size∧pA≤p43 from hwx▸⟨L11.out.1.alloc (by have:=L11.out.2;omega) _,by have:=L11.out.2;simp;omega,by simp;omega,by have:=L11.out.2;omega⟩);rw[hp43];have S43:=Nc (show w11.heap.size≤wx43.heap.size from by rw[← hwx];simp);clear hwx hp43;go_wp2_with (with_reducible refine aP (H:=Value) _ 3 139 jR Tryz.underlying112 bM (pA+1) 11 (.map [(.int .i64 32,.held (.func (.func 92) #[] #[])),(.int .i64 33,.held (.func (.func 83) #[] #[])),(.int .i64 34,.held (.func (.func 85) #[] #[])),(.int .i64 35,.held (.func (.func 87) #[] #[])),(.int .i64 36,.held (.func (.func 89) #[] #[])),(.int .i64 37,.held (.func (.func 127) #[] #[.pointer (some ⟨pA,0,none⟩)])),(.int .i64 38,.held (.func (.func 127) #[] #[.pointer (some ⟨p38,0,none⟩)])),(.int .i64 39,.held (.func (.func 127) #[] #[.pointer (some ⟨p39,0,none⟩)])),(.int .i64 40,.held (.func (.func 129) #[] #[.pointer (some ⟨p40,0,none⟩)])),(.int .i64 41,.held (.func (.func 129) #[] #[.pointer (some ⟨p41,0,none⟩)])),(.int .i64 42,.held (.func (.func 127) #[] #[.pointer (some ⟨p42,0,none⟩)]))]) (.int .i64 43) (.func (.func 127) #[] #[.pointer (some ⟨p43,0,none⟩)]) (.int .i64 43) (.held (.func (.func 127) #[] #[.pointer (some ⟨p43,0,none⟩)])) [] ?o43 ?n43 ?h43 ?r43 ?m43 ?x43 ?v43 ?_)
 case o43=>exact Y43.out
 case n43=>unfold maxLen;omega
 case h43=>exact Maps.keyOf_int_mk Tryz.underlying3 (by decide)
 case r43=>rfl
 case m43=>rfl
 case x43=>rfl
 case v43=>rfl
 intro w12 hown hg;have O12:=Nc (bW (D':= .map [(.int .i64 32,.held (.func (.func 92) #[] #[])),(.int .i64 33,.held (.func (.func 83) #[] #[])),(.int .i64 34,.held (.func (.func 85) #[] #[])),(.int .i64 35,.held (.func (.func 87) #[] #[])),(.int .i64 36,.held (.func (.func 89) #[] #[])),(.int .i64 37,.held (.func (.func 127) #[] #[.pointer (some ⟨pA,0,none⟩)])),(.int .i64 38,.held (.func (.func 127) #[] #[.pointer (some ⟨p38,0,none⟩)])),(.int .i64 39,.held (.func (.func 127) #[] #[.pointer (some ⟨p39,0,none⟩)])),(.int .i64 40,.held (.func (.func 129) #[] #[.pointer (some ⟨p40,0,none⟩)])),(.int .i64 41,.held (.func (.func 129) #[] #[.pointer (some ⟨p41,0,none⟩)])),(.int .i64 42,.held (.func (.func 127) #[] #[.pointer (some ⟨p42,0,none⟩)])),(.int .i64 43,.held (.func (.func 127) #[] #[.pointer (some ⟨p43,0,none⟩)]))]) (m:=12) hown rfl rfl);have B12:=Nc (X43.out.grown hg);have L12:=Nc (show Below pA w w12∧pA+1 < w12.heap.size from⟨dD Z43.out.1 (Nat.le_succ _) hg (by have:=Z43.out.2.1;omega),by have:=Z43.out.2.1;have:=hg.size;omega⟩);have Q38_12:=Nc (show p38 < w12.heap.size from by have:=Q38_11.out;have:=hg.size;have:=Z43.out.2;have h9:=S43.out;omega);have Q39_12:=Nc (show p39 < w12.heap.size from by have:=Q39_11.out;have:=hg.size;have:=Z43.out.2;have h9:=S43.out;omega);have Q40_12:=Nc (show p40 < w12.heap.size from by have:=Q40_11.out;have:=hg.size;have:=Z43.out.2;have h9:=S43.out;omega);have Q41_12:=Nc (show p41 < w12.heap.size from by have:=Q41_11.out;have:=hg.size;have:=Z43.out.2;have h9:=S43.out;omega);have Q42_12:=Nc (show p42 < w12.heap.size from by have:=Q42_11.out;have:=hg.size;have:=Z43.out.2;have h9:=S43.out;omega);have Q43_12:=Nc (show p43 < w12.heap.size from by have:=Z43.out.2.2.1;have:=hg.size;omega);clear hown hg;go_wp2_with fail
 refine(dS (.func 98) #[] _).mono ?_;rintro e wx44 ⟨rfl,hwx⟩;obtain⟨p44,hp44⟩:∃ p,w12.heap.size=p:=⟨_,rfl⟩;have X44:=Nc (show Bxs (pA+1) wx44 ((p44,.func (.func 98) #[] #[],105)::((p43,.func (.func 97) #[] #[],105)::((p42,.func (.func 96) #[] #[],105)::((p41,.func (.func 127) #[] #[.pointer (some ⟨pA,0,none⟩)],139)::((p40,.func (.func 87) #[] #[],139)::((p39,.func (.func 94) #[] #[],105)::((p38,.func (.func 93) #[] #[],105)::[(pA,.func (.func 91) #[] #[],105)]))))))) from hp44▸hwx▸B12.out.put _ _ L12.out.2);have Y44:=Nc (show wx44.ownsMap Tryz.prog 3 bM (pA+1) 12 (.map [(.int .i64 32,.held (.func (.func 92) #[] #[])),(.int .i64 33,.held (.func (.func 83) #[] #[])),(.int .i64 34,.held (.func (.func 85) #[] #[])),(.int .i64 35,.held (.func (.func 87) #[] #[])),(.int .i64 36,.held (.func (.func 89) #[] #[])),(.int .i64 37,.held (.func (.func 127) #[] #[.pointer (some ⟨pA,0,none⟩)])),(.int .i64 38,.held (.func (.func 127) #[] #[.pointer (some ⟨p38,0,none⟩)])),(.int .i64 39,.held (.func (.func 127) #[] #[.pointer (some ⟨p39,0,none⟩)])),(.int .i64 40,.held (.func (.func 129) #[] #[.pointer (some ⟨p40,0,none⟩)])),(.int .i64 41,.held (.func (.func 129) #[] #[.pointer (some ⟨p41,0,none⟩)])),(.int .i64 42,.held (.func (.func 127) #[] #[.pointer (some ⟨p42,0,none⟩)])),(.int .i64 43,.held (.func (.func 127) #[] #[.pointer (some ⟨p43,0,none⟩)]))]) from hwx▸O12.out.alloc _);have Z44:=Nc (show Below pA w wx44∧pA+1 < wx44.heap.size∧p44 < wx44.heap.size∧pA≤p44 from hwx▸⟨L12.out.1.alloc (by have:=L12.out.2;omega) _,by have:=L12.out.2;simp;omega,by simp;omega,by have:=L12.out.2;omega⟩);rw[hp44];have S44:=Nc (show w12.heap.size≤wx44.heap.size from by rw[← hwx];simp);clear hwx hp44;go_wp2_with (with_reducible refine aP (H:=Value) _ 3 139 jR Tryz.underlying112 bM (pA+1) 12 (.map [(.int .i64 32,.held (.func (.func 92) #[] #[])),(.int .i64 33,.held (.func (.func 83) #[] #[])),(.int .i64 34,.held (.func (.func 85) #[] #[])),(.int .i64 35,.held (.func (.func 87) #[] #[])),(.int .i64 36,.held (.func (.func 89) #[] #[])),(.int .i64 37,.held (.func (.func 127) #[] #[.pointer (some ⟨pA,0,none⟩)])),(.int .i64 38,.held (.func (.func 127) #[] #[.pointer (some ⟨p38,0,none⟩)])),(.int .i64 39,.held (.func (.func 127) #[] #[.pointer (some ⟨p39,0,none⟩)])),(.int .i64 40,.held (.func (.func 129) #[] #[.pointer (some ⟨p40,0,none⟩)])),(.int .i64 41,.held (.func (.func 129) #[] #[.pointer (some ⟨p41,0,none⟩)])),(.int .i64 42,.held (.func (.func 127) #[] #[.pointer (some ⟨p42,0,none⟩)])),(.int .i64 43,.held (.func (.func 127) #[] #[.pointer (some ⟨p43,0,none⟩)]))]) (.int .i64 44) (.func (.func 127) #[] #[.pointer (some ⟨p44,0,none⟩)]) (.int .i64 44) (.held (.func (.func 127) #[] #[.pointer (some ⟨p44,0,none⟩)])) [] ?o44 ?n44 ?h44 ?r44 ?m44 ?x44 ?v44 ?_)
 case o44=>exact Y44.out
 case n44=>unfold maxLen;omega
 case h44=>exact Maps.keyOf_int_mk Tryz.underlying3 (by decide)
 case r44=>rfl
 case m44=>rfl
 case x44=>rfl
 case v44=>rfl
 intro w13 hown hg;have O13:=Nc (bW (D':= .map [(.int .i64 32,.held (.func (.func 92) #[] #[])),(.int .i64 33,.held (.func (.func 83) #[] #[])),(.int .i64 34,.held (.func (.func 85) #[] #[])),(.int .i64 35,.held (.func (.func 87) #[] #[])),(.int .i64 36,.held (.func (.func 89) #[] #[])),(.int .i64 37,.held (.func (.func 127) #[] #[.pointer (some ⟨pA,0,none⟩)])),(.int .i64 38,.held (.func (.func 127) #[] #[.pointer (some ⟨p38,0,none⟩)])),(.int .i64 39,.held (.func (.func 127) #[] #[.pointer (some ⟨p39,0,none⟩)])),(.int .i64 40,.held (.func (.func 129) #[] #[.pointer (some ⟨p40,0,none⟩)])),(.int .i64 41,.held (.func (.func 129) #[] #[.pointer (some ⟨p41,0,none⟩)])),(.int .i64 42,.held (.func (.func 127) #[] #[.pointer (some ⟨p42,0,none⟩)])),(.int .i64 43,.held (.func (.func 127) #[] #[.pointer (some ⟨p43,0,none⟩)])),(.int .i64 44,.held (.func (.func 127) #[] #[.pointer (some ⟨p44,0,none⟩)]))]) (m:=13) hown rfl rfl);have B13:=Nc (X44.out.grown hg);have L13:=Nc (show Below pA w w13∧pA+1 < w13.heap.size from⟨dD Z44.out.1 (Nat.le_succ _) hg (by have:=Z44.out.2.1;omega),by have:=Z44.out.2.1;have:=hg.size;omega⟩);have Q38_13:=Nc (show p38 < w13.heap.size from by have:=Q38_12.out;have:=hg.size;have:=Z44.out.2;have h9:=S44.out;omega);have Q39_13:=Nc (show p39 < w13.heap.size from by have:=Q39_12.out;have:=hg.size;have:=Z44.out.2;have h9:=S44.out;omega);have Q40_13:=Nc (show p40 < w13.heap.size from by have:=Q40_12.out;have:=hg.size;have:=Z44.out.2;have h9:=S44.out;omega);have Q41_13:=Nc (show p41 < w13.heap.size from by have:=Q41_12.out;have:=hg.size;have:=Z44.out.2;have h9:=S44.out;omega);have Q42_13:=Nc (show p42 < w13.heap.size from by have:=Q42_12.out;have:=hg.size;have:=Z44.out.2;have h9:=S44.out;omega);have Q43_13:=Nc (show p43 < w13.heap.size from by have:=Q43_12.out;have:=hg.size;have:=Z44.out.2;have h9:=S44.out;omega);have Q44_13:=Nc (show p44 < w13.heap.size from by have:=Z44.out.2.2.1;have:=hg.size;omega);clear hown hg;go_wp2_with fail
 refine(dS (.func 100) #[] _).mono ?_;rintro e wx45 ⟨rfl,hwx⟩;obtain⟨p45,hp45⟩:∃ p,w13.heap.size=p:=⟨_,rfl⟩;have X45:=Nc (show Bxs (pA+1) wx45 ((p45,.func (.func 100) #[] #[],105)::((p44,.func (.func 98) #[] #[],105)::((p43,.func (.func 97) #[] #[],105)::((p42,.func (.func 96) #[] #[],105)::((p41,.func (.func 127) #[] #[.pointer (some ⟨pA,0,none⟩)],139)::((p40,.func (.func 87) #[] #[],139)::((p39,.func (.func 94) #[] #[],105)::((p38,.func (.func 93) #[] #[],105)::[(pA,.func (.func 91) #[] #[],105)])))))))) from hp45▸hwx▸B13.out.put _ _ L13.out.2);have Y45:=Nc (show wx45.ownsMap Tryz.prog 3 bM (pA+1) 13 (.map [(.int .i64 32,.held (.func (.func 92) #[] #[])),(.int .i64 33,.held (.func (.func 83) #[] #[])),(.int .i64 34,.held (.func (.func 85) #[] #[])),(.int .i64 35,.held (.func (.func 87) #[] #[])),(.int .i64 36,.held (.func (.func 89) #[] #[])),(.int .i64 37,.held (.func (.func 127) #[] #[.pointer (some ⟨pA,0,none⟩)])),(.int .i64 38,.held (.func (.func 127) #[] #[.pointer (some ⟨p38,0,none⟩)])),(.int .i64 39,.held (.func (.func 127) #[] #[.pointer (some ⟨p39,0,none⟩)])),(.int .i64 40,.held (.func (.func 129) #[] #[.pointer (some ⟨p40,0,none⟩)])),(.int .i64 41,.held (.func (.func 129) #[] #[.pointer (some ⟨p41,0,none⟩)])),(.int .i64 42,.held (.func (.func 127) #[] #[.pointer (some ⟨p42,0,none⟩)])),(.int .i64 43,.held (.func (.func 127) #[] #[.pointer (some ⟨p43,0,none⟩)])),(.int .i64 44,.held (.func (.func 127) #[] #[.pointer (some ⟨p44,0,none⟩)]))]) from hwx▸O13.out.alloc _);have Z45:=Nc (show Below pA w wx45∧pA+1 < wx45.heap.size∧p45 < wx45.heap.size∧pA≤p45 from hwx▸⟨L13.out.1.alloc (by have:=L13.out.2;omega) _,by have:=L13.out.2;simp;omega,by simp;omega,by have:=L13.out.2;omega⟩);rw[hp45];have S45:=Nc (show w13.heap.size≤wx45.heap.size from by rw[← hwx];simp);clear hwx hp45;go_wp2_with (with_reducible refine aP (H:=Value) _ 3 139 jR Tryz.underlying112 bM (pA+1) 13 (.map [(.int .i64 32,.held (.func (.func 92) #[] #[])),(.int .i64 33,.held (.func (.func 83) #[] #[])),(.int .i64 34,.held (.func (.func 85) #[] #[])),(.int .i64 35,.held (.func (.func 87) #[] #[])),(.int .i64 36,.held (.func (.func 89) #[] #[])),(.int .i64 37,.held (.func (.func 127) #[] #[.pointer (some ⟨pA,0,none⟩)])),(.int .i64 38,.held (.func (.func 127) #[] #[.pointer (some ⟨p38,0,none⟩)])),(.int .i64 39,.held (.func (.func 127) #[] #[.pointer (some ⟨p39,0,none⟩)])),(.int .i64 40,.held (.func (.func 129) #[] #[.pointer (some ⟨p40,0,none⟩)])),(.int .i64 41,.held (.func (.func 129) #[] #[.pointer (some ⟨p41,0,none⟩)])),(.int .i64 42,.held (.func (.func 127) #[] #[.pointer (some ⟨p42,0,none⟩)])),(.int .i64 43,.held (.func (.func 127) #[] #[.pointer (some ⟨p43,0,none⟩)])),(.int .i64 44,.held (.func (.func 127) #[] #[.pointer (some ⟨p44,0,none⟩)]))]) (.int .i64 45) (.func (.func 127) #[] #[.pointer (some ⟨p45,0,none⟩)]) (.int .i64 45) (.held (.func (.func 127) #[] #[.pointer (some ⟨p45,0,none⟩)])) [] ?o45 ?n45 ?h45 ?r45 ?m45 ?x45 ?v45 ?_)
 case o45=>exact Y45.out
 case n45=>unfold maxLen;omega
 case h45=>exact Maps.keyOf_int_mk Tryz.underlying3 (by decide)
 case r45=>rfl
 case m45=>rfl
 case x45=>rfl
 case v45=>rfl
 intro w14 hown hg;have O14:=Nc (bW (D':= .map [(.int .i64 32,.held (.func (.func 92) #[] #[])),(.int .i64 33,.held (.func (.func 83) #[] #[])),(.int .i64 34,.held (.func (.func 85) #[] #[])),(.int .i64 35,.held (.func (.func 87) #[] #[])),(.int .i64 36,.held (.func (.func 89) #[] #[])),(.int .i64 37,.held (.func (.func 127) #[] #[.pointer (some ⟨pA,0,none⟩)])),(.int .i64 38,.held (.func (.func 127) #[] #[.pointer (some ⟨p38,0,none⟩)])),(.int .i64 39,.held (.func (.func 127) #[] #[.pointer (some ⟨p39,0,none⟩)])),(.int .i64 40,.held (.func (.func 129) #[] #[.pointer (some ⟨p40,0,none⟩)])),(.int .i64 41,.held (.func (.func 129) #[] #[.pointer (some ⟨p41,0,none⟩)])),(.int .i64 42,.held (.func (.func 127) #[] #[.pointer (some ⟨p42,0,none⟩)])),(.int .i64 43,.held (.func (.func 127) #[] #[.pointer (some ⟨p43,0,none⟩)])),(.int .i64 44,.held (.func (.func 127) #[] #[.pointer (some ⟨p44,0,none⟩)])),(.int .i64 45,.held (.func (.func 127) #[] #[.pointer (some ⟨p45,0,none⟩)]))]) (m:=14) hown rfl rfl);have B14:=Nc (X45.out.grown hg);have L14:=Nc (show Below pA w w14∧pA+1 < w14.heap.size from⟨dD Z45.out.1 (Nat.le_succ _) hg (by have:=Z45.out.2.1;omega),by have:=Z45.out.2.1;have:=hg.size;omega⟩);have Q38_14:=Nc (show p38 < w14.heap.size from by have:=Q38_13.out;have:=hg.size;have:=Z45.out.2;have h9:=S45.out;omega);have Q39_14:=Nc (show p39 < w14.heap.size from by have:=Q39_13.out;have:=hg.size;have:=Z45.out.2;have h9:=S45.out;omega);have Q40_14:=Nc (show p40 < w14.heap.size from by have:=Q40_13.out;have:=hg.size;have:=Z45.out.2;have h9:=S45.out;omega);have Q41_14:=Nc (show p41 < w14.heap.size from by have:=Q41_13.out;have:=hg.size;have:=Z45.out.2;have h9:=S45.out;omega);have Q42_14:=Nc (show p42 < w14.heap.size from by have:=Q42_13.out;have:=hg.size;have:=Z45.out.2;have h9:=S45.out;omega);have Q43_14:=Nc (show p43 < w14.heap.size from by have:=Q43_13.out;have:=hg.size;have:=Z45.out.2;have h9:=S45.out;omega);have Q44_14:=Nc (show p44 < w14.heap.size from by have:=Q44_13.out;have:=hg.size;have:=Z45.out.2;have h9:=S45.out;omega);have Q45_14:=Nc (show p45 < w14.heap.size from by have:=Z45.out.2.2.1;have:=hg.size;omega);clear hown hg;go_wp2_with fail
 refine(dS (.func 101) #[] _).mono ?_;rintro e wx46 ⟨rfl,hwx⟩;obtain⟨p46,hp46⟩:∃ p,w14.heap.size=p:=⟨_,rfl⟩;have X46:=Nc (show Bxs (pA+1) wx46 ((p46,.func (.func 101) #[] #[],105)::((p45,.func (.func 100) #[] #[],105)::((p44,.func (.func 98) #[] #[],105)::((p43,.func (.func 97) #[] #[],105)::((p42,.func (.func 96) #[] #[],105)::((p41,.func (.func 127) #[] #[.pointer (some ⟨pA,0,none⟩)],139)::((p40,.func (.func 87) #[] #[],139)::((p39,.func (.func 94) #[] #[],105)::((p38,.func (.func 93) #[] #[],105)::[(pA,.func (.func 91) #[] #[],105)]))))))))) from hp46▸hwx▸B14.out.put _ _ L14.out.2);have Y46:=Nc (show wx46.ownsMap Tryz.prog 3 bM (pA+1) 14 (.map [(.int .i64 32,.held (.func (.func 92) #[] #[])),(.int .i64 33,.held (.func (.func 83) #[] #[])),(.int .i64 34,.held (.func (.func 85) #[] #[])),(.int .i64 35,.held (.func (.func 87) #[] #[])),(.int .i64 36,.held (.func (.func 89) #[] #[])),(.int .i64 37,.held (.func (.func 127) #[] #[.pointer (some ⟨pA,0,none⟩)])),(.int .i64 38,.held (.func (.func 127) #[] #[.pointer (some ⟨p38,0,none⟩)])),(.int .i64 39,.held (.func (.func 127) #[] #[.pointer (some ⟨p39,0,none⟩)])),(.int .i64 40,.held (.func (.func 129) #[] #[.pointer (some ⟨p40,0,none⟩)])),(.int .i64 41,.held (.func (.func 129) #[] #[.pointer (some ⟨p41,0,none⟩)])),(.int .i64 42,.held (.func (.func 127) #[] #[.pointer (some ⟨p42,0,none⟩)])),(.int .i64 43,.held (.func (.func 127) #[] #[.pointer (some ⟨p43,0,none⟩)])),(.int .i64 44,.held (.func (.func 127) #[] #[.pointer (some ⟨p44,0,none⟩)])),(.int .i64 45,.held (.func (.func 127) #[] #[.pointer (some ⟨p45,0,none⟩)]))]) from hwx▸O14.out.alloc _);have Z46:=Nc (show Below pA w wx46∧pA+1 < wx46.heap.size∧p46 < wx46.heap.size∧pA≤p46 from hwx▸⟨L14.out.1.alloc (by have:=L14.out.2;omega) _,by have:=L14.out.2;simp;omega,by simp;omega,by have:=L14.out.2;omega⟩);rw[hp46];have S46:=Nc (show w14.heap.size≤wx46.heap.size from by rw[← hwx];simp);clear hwx hp46;go_wp2_with (with_reducible refine aP (H:=Value) _ 3 139 jR Tryz.underlying112 bM (pA+1) 14 (.map [(.int .i64 32,.held (.func (.func 92) #[] #[])),(.int .i64 33,.held (.func (.func 83) #[] #[])),(.int .i64 34,.held (.func (.func 85) #[] #[])),(.int .i64 35,.held (.func (.func 87) #[] #[])),(.int .i64 36,.held (.func (.func 89) #[] #[])),(.int .i64 37,.held (.func (.func 127) #[] #[.pointer (some ⟨pA,0,none⟩)])),(.int .i64 38,.held (.func (.func 127) #[] #[.pointer (some ⟨p38,0,none⟩)])),(.int .i64 39,.held (.func (.func 127) #[] #[.pointer (some ⟨p39,0,none⟩)])),(.int .i64 40,.held (.func (.func 129) #[] #[.pointer (some ⟨p40,0,none⟩)])),(.int .i64 41,.held (.func (.func 129) #[] #[.pointer (some ⟨p41,0,none⟩)])),(.int .i64 42,.held (.func (.func 127) #[] #[.pointer (some ⟨p42,0,none⟩)])),(.int .i64 43,.held (.func (.func 127) #[] #[.pointer (some ⟨p43,0,none⟩)])),(.int .i64 44,.held (.func (.func 127) #[] #[.pointer (some ⟨p44,0,none⟩)])),(.int .i64 45,.held (.func (.func 127) #[] #[.pointer (some ⟨p45,0,none⟩)]))]) (.int .i64 46) (.func (.func 127) #[] #[.pointer (some ⟨p46,0,none⟩)]) (.int .i64 46) (.held (.func (.func 127) #[] #[.pointer (some ⟨p46,0,none⟩)])) [] ?o46 ?n46 ?h46 ?r46 ?m46 ?x46 ?v46 ?_)
 case o46=>exact Y46.out
 case n46=>unfold maxLen;omega
 case h46=>exact Maps.keyOf_int_mk Tryz.underlying3 (by decide)
 case r46=>rfl
 case m46=>rfl
 case x46=>rfl
 case v46=>rfl
 intro w15 hown hg;have O15:=Nc (bW (D':= .map [(.int .i64 32,.held (.func (.func 92) #[] #[])),(.int .i64 33,.held (.func (.func 83) #[] #[])),(.int .i64 34,.held (.func (.func 85) #[] #[])),(.int .i64 35,.held (.func (.func 87) #[] #[])),(.int .i64 36,.held (.func (.func 89) #[] #[])),(.int .i64 37,.held (.func (.func 127) #[] #[.pointer (some ⟨pA,0,none⟩)])),(.int .i64 38,.held (.func (.func 127) #[] #[.pointer (some ⟨p38,0,none⟩)])),(.int .i64 39,.held (.func (.func 127) #[] #[.pointer (some ⟨p39,0,none⟩)])),(.int .i64 40,.held (.func (.func 129) #[] #[.pointer (some ⟨p40,0,none⟩)])),(.int .i64 41,.held (.func (.func 129) #[] #[.pointer (some ⟨p41,0,none⟩)])),(.int .i64 42,.held (.func (.func 127) #[] #[.pointer (some ⟨p42,0,none⟩)])),(.int .i64 43,.held (.func (.func 127) #[] #[.pointer (some ⟨p43,0,none⟩)])),(.int .i64 44,.held (.func (.func 127) #[] #[.pointer (some ⟨p44,0,none⟩)])),(.int .i64 45,.held (.func (.func 127) #[] #[.pointer (some ⟨p45,0,none⟩)])),(.int .i64 46,.held (.func (.func 127) #[] #[.pointer (some ⟨p46,0,none⟩)]))]) (m:=15) hown rfl rfl);have B15:=Nc (X46.out.grown hg);have L15:=Nc (show Below pA w w15∧pA+1 < w15.heap.size from⟨dD Z46.out.1 (Nat.le_succ _) hg (by have:=Z46.out.2.1;omega),by have:=Z46.out.2.1;have:=hg.size;omega⟩);have Q38_15:=Nc (show p38 < w15.heap.size from by have:=Q38_14.out;have:=hg.size;have:=Z46.out.2;have h9:=S46.out;omega);have Q39_15:=Nc (show p39 < w15.heap.size from by have:=Q39_14.out;have:=hg.size;have:=Z46.out.2;have h9:=S46.out;omega);have Q40_15:=Nc (show p40 < w15.heap.size from by have:=Q40_14.out;have:=hg.size;have:=Z46.out.2;have h9:=S46.out;omega);have Q41_15:=Nc (show p41 < w15.heap.size from by have:=Q41_14.out;have:=hg.size;have:=Z46.out.2;have h9:=S46.out;omega);have Q42_15:=Nc (show p42 < w15.heap.size from by have:=Q42_14.out;have:=hg.size;have:=Z46.out.2;have h9:=S46.out;omega);have Q43_15:=Nc (show p43 < w15.heap.size from by have:=Q43_14.out;have:=hg.size;have:=Z46.out.2;have h9:=S46.out;omega);have Q44_15:=Nc (show p44 < w15.heap.size from by have:=Q44_14.out;have:=hg.size;have:=Z46.out.2;have h9:=S46.out;omega);have Q45_15:=Nc (show p45 < w15.heap.size from by have:=Q45_14.out;have:=hg.size;have:=Z46.out.2;have h9:=S46.out;omega);have Q46_15:=Nc (show p46 < w15.heap.size from by have:=Z46.out.2.2.1;have:=hg.size;omega);clear hown hg;go_wp2_with (with_reducible refine aP (H:=Value) _ 3 139 jR Tryz.underlying112 bM (pA+1) 15 (.map [(.int .i64 32,.held (.func (.func 92) #[] #[])),(.int .i64 33,.held (.func (.func 83) #[] #[])),(.int .i64 34,.held (.func (.func 85) #[] #[])),(.int .i64 35,.held (.func (.func 87) #[] #[])),(.int .i64 36,.held (.func (.func 89) #[] #[])),(.int .i64 37,.held (.func (.func 127) #[] #[.pointer (some ⟨pA,0,none⟩)])),(.int .i64 38,.held (.func (.func 127) #[] #[.pointer (some ⟨p38,0,none⟩)])),(.int .i64 39,.held (.func (.func 127) #[] #[.pointer (some ⟨p39,0,none⟩)])),(.int .i64 40,.held (.func (.func 129) #[] #[.pointer (some ⟨p40,0,none⟩)])),(.int .i64 41,.held (.func (.func 129) #[] #[.pointer (some ⟨p41,0,none⟩)])),(.int .i64 42,.held (.func (.func 127) #[] #[.pointer (some ⟨p42,0,none⟩)])),(.int .i64 43,.held (.func (.func 127) #[] #[.pointer (some ⟨p43,0,none⟩)])),(.int .i64 44,.held (.func (.func 127) #[] #[.pointer (some ⟨p44,0,none⟩)])),(.int .i64 45,.held (.func (.func 127) #[] #[.pointer (some ⟨p45,0,none⟩)])),(.int .i64 46,.held (.func (.func 127) #[] #[.pointer (some ⟨p46,0,none⟩)]))]) (.int .i64 18) (.func (.func 102) #[] #[]) (.int .i64 18) (.held (.func (.func 102) #[] #[])) [] ?o18 ?n18 ?h18 ?r18 ?m18 ?x18 ?v18 ?_)
 case o18=>exact O15.out
 case n18=>unfold maxLen;omega
 case h18=>exact Maps.keyOf_int_mk Tryz.underlying3 (by decide)
 case r18=>rfl
 case m18=>rfl
 case x18=>rfl
 case v18=>rfl
 intro w16 hown hg;have O16:=Nc (bW (D':= .map [(.int .i64 18,.held (.func (.func 102) #[] #[])),(.int .i64 32,.held (.func (.func 92) #[] #[])),(.int .i64 33,.held (.func (.func 83) #[] #[])),(.int .i64 34,.held (.func (.func 85) #[] #[])),(.int .i64 35,.held (.func (.func 87) #[] #[])),(.int .i64 36,.held (.func (.func 89) #[] #[])),(.int .i64 37,.held (.func (.func 127) #[] #[.pointer (some ⟨pA,0,none⟩)])),(.int .i64 38,.held (.func (.func 127) #[] #[.pointer (some ⟨p38,0,none⟩)])),(.int .i64 39,.held (.func (.func 127) #[] #[.pointer (some ⟨p39,0,none⟩)])),(.int .i64 40,.held (.func (.func 129) #[] #[.pointer (some ⟨p40,0,none⟩)])),(.int .i64 41,.held (.func (.func 129) #[] #[.pointer (some ⟨p41,0,none⟩)])),(.int .i64 42,.held (.func (.func 127) #[] #[.pointer (some ⟨p42,0,none⟩)])),(.int .i64 43,.held (.func (.func 127) #[] #[.pointer (some ⟨p43,0,none⟩)])),(.int .i64 44,.held (.func (.func 127) #[] #[.pointer (some ⟨p44,0,none⟩)])),(.int .i64 45,.held (.func (.func 127) #[] #[.pointer (some ⟨p45,0,none⟩)])),(.int .i64 46,.held (.func (.func 127) #[] #[.pointer (some ⟨p46,0,none⟩)]))]) (m:=16) hown rfl rfl);have B16:=Nc (B15.out.grown hg);have L16:=Nc (show Below pA w w16∧pA+1 < w16.heap.size from⟨dD L15.out.1 (Nat.le_succ _) hg (by have:=L15.out.2;omega),by have:=L15.out.2;have:=hg.size;omega⟩);have Q38_16:=Nc (show p38 < w16.heap.size from by have:=Q38_15.out;have:=hg.size;omega);have Q39_16:=Nc (show p39 < w16.heap.size from by have:=Q39_15.out;have:=hg.size;omega);have Q40_16:=Nc (show p40 < w16.heap.size from by have:=Q40_15.out;have:=hg.size;omega);have Q41_16:=Nc (show p41 < w16.heap.size from by have:=Q41_15.out;have:=hg.size;omega);have Q42_16:=Nc (show p42 < w16.heap.size from by have:=Q42_15.out;have:=hg.size;omega);have Q43_16:=Nc (show p43 < w16.heap.size from by have:=Q43_15.out;have:=hg.size;omega);have Q44_16:=Nc (show p44 < w16.heap.size from by have:=Q44_15.out;have:=hg.size;omega);have Q45_16:=Nc (show p45 < w16.heap.size from by have:=Q45_15.out;have:=hg.size;omega);have Q46_16:=Nc (show p46 < w16.heap.size from by have:=Q46_15.out;have:=hg.size;omega);clear hown hg;go_wp2_with fail
 refine(dS (.func 103) #[] _).mono ?_;rintro e wx19 ⟨rfl,hwx⟩;obtain⟨p19,hp19⟩:∃ p,w16.heap.size=p:=⟨_,rfl⟩;have X19:=Nc (show Bxs (pA+1) wx19 ((p19,.func (.func 103) #[] #[],105)::((p46,.func (.func 101) #[] #[],105)::((p45,.func (.func 100) #[] #[],105)::((p44,.func (.func 98) #[] #[],105)::((p43,.func (.func 97) #[] #[],105)::((p42,.func (.func 96) #[] #[],105)::((p41,.func (.func 127) #[] #[.pointer (some ⟨pA,0,none⟩)],139)::((p40,.func (.func 87) #[] #[],139)::((p39,.func (.func 94) #[] #[],105)::((p38,.func (.func 93) #[] #[],105)::[(pA,.func (.func 91) #[] #[],105)])))))))))) from hp19▸hwx▸B16.out.put _ _ L16.out.2);have Y19:=Nc (show wx19.ownsMap Tryz.prog 3 bM (pA+1) 16 (.map [(.int .i64 18,.held (.func (.func 102) #[] #[])),(.int .i64 32,.held (.func (.func 92) #[] #[])),(.int .i64 33,.held (.func (.func 83) #[] #[])),(.int .i64 34,.held (.func (.func 85) #[] #[])),(.int .i64 35,.held (.func (.func 87) #[] #[])),(.int .i64 36,.held (.func (.func 89) #[] #[])),(.int .i64 37,.held (.func (.func 127) #[] #[.pointer (some ⟨pA,0,none⟩)])),(.int .i64 38,.held (.func (.func 127) #[] #[.pointer (some ⟨p38,0,none⟩)])),(.int .i64 39,.held (.func (.func 127) #[] #[.pointer (some ⟨p39,0,none⟩)])),(.int .i64 40,.held (.func (.func 129) #[] #[.pointer (some ⟨p40,0,none⟩)])),(.int .i64 41,.held (.func (.func 129) #[] #[.pointer (some ⟨p41,0,none⟩)])),(.int .i64 42,.held (.func (.func 127) #[] #[.pointer (some ⟨p42,0,none⟩)])),(.int .i64 43,.held (.func (.func 127) #[] #[.pointer (some ⟨p43,0,none⟩)])),(.int .i64 44,.held (.func (.func 127) #[] #[.pointer (some ⟨p44,0,none⟩)])),(.int .i64 45,.held (.func (.func 127) #[] #[.pointer (some ⟨p45,0,none⟩)])),(.int .i64 46,.held (.func (.func 127) #[] #[.pointer (some ⟨p46,0,none⟩)]))]) from hwx▸O16.out.alloc _);have Z19:=Nc (show Below pA w wx19∧pA+1 < wx19.heap.size∧p19 < wx19.heap.size∧pA≤p19 from hwx▸⟨L16.out.1.alloc (by have:=L16.out.2;omega) _,by have:=L16.out.2;simp;omega,by simp;omega,by have:=L16.out.2;omega⟩);rw[hp19];have S19:=Nc (show w16.heap.size≤wx19.heap.size from by rw[← hwx];simp);clear hwx hp19;go_wp2_with (with_reducible refine aP (H:=Value) _ 3 139 jR Tryz.underlying112 bM (pA+1) 16 (.map [(.int .i64 18,.held (.func (.func 102) #[] #[])),(.int .i64 32,.held (.func (.func 92) #[] #[])),(.int .i64 33,.held (.func (.func 83) #[] #[])),(.int .i64 34,.held (.func (.func 85) #[] #[])),(.int .i64 35,.held (.func (.func 87) #[] #[])),(.int .i64 36,.held (.func (.func 89) #[] #[])),(.int .i64 37,.held (.func (.func 127) #[] #[.pointer (some ⟨pA,0,none⟩)])),(.int .i64 38,.held (.func (.func 127) #[] #[.pointer (some ⟨p38,0,none⟩)])),(.int .i64 39,.held (.func (.func 127) #[] #[.pointer (some ⟨p39,0,none⟩)])),(.int .i64 40,.held (.func (.func 129) #[] #[.pointer (some ⟨p40,0,none⟩)])),(.int .i64 41,.held (.func (.func 129) #[] #[.pointer (some ⟨p41,0,none⟩)])),(.int .i64 42,.held (.func (.func 127) #[] #[.pointer (some ⟨p42,0,none⟩)])),(.int .i64 43,.held (.func (.func 127) #[] #[.pointer (some ⟨p43,0,none⟩)])),(.int .i64 44,.held (.func (.func 127) #[] #[.pointer (some ⟨p44,0,none⟩)])),(.int .i64 45,.held (.func (.func 127) #[] #[.pointer (some ⟨p45,0,none⟩)])),(.int .i64 46,.held (.func (.func 127) #[] #[.pointer (some ⟨p46,0,none⟩)]))]) (.int .i64 19) (.func (.func 127) #[] #[.pointer (some ⟨p19,0,none⟩)]) (.int .i64 19) (.held (.func (.func 127) #[] #[.pointer (some ⟨p19,0,none⟩)])) [] ?o19 ?n19 ?h19 ?r19 ?m19 ?x19 ?v19 ?_)
 case o19=>exact Y19.out
 case n19=>unfold maxLen;omega
 case h19=>exact Maps.keyOf_int_mk Tryz.underlying3 (by decide)
 case r19=>rfl
 case m19=>rfl
 case x19=>rfl
 case v19=>rfl
 intro w17 hown hg;have O17:=Nc (bW (D':= .map [(.int .i64 18,.held (.func (.func 102) #[] #[])),(.int .i64 19,.held (.func (.func 127) #[] #[.pointer (some ⟨p19,0,none⟩)])),(.int .i64 32,.held (.func (.func 92) #[] #[])),(.int .i64 33,.held (.func (.func 83) #[] #[])),(.int .i64 34,.held (.func (.func 85) #[] #[])),(.int .i64 35,.held (.func (.func 87) #[] #[])),(.int .i64 36,.held (.func (.func 89) #[] #[])),(.int .i64 37,.held (.func (.func 127) #[] #[.pointer (some ⟨pA,0,none⟩)])),(.int .i64 38,.held (.func (.func 127) #[] #[.pointer (some ⟨p38,0,none⟩)])),(.int .i64 39,.held (.func (.func 127) #[] #[.pointer (some ⟨p39,0,none⟩)])),(.int .i64 40,.held (.func (.func 129) #[] #[.pointer (some ⟨p40,0,none⟩)])),(.int .i64 41,.held (.func (.func 129) #[] #[.pointer (some ⟨p41,0,none⟩)])),(.int .i64 42,.held (.func (.func 127) #[] #[.pointer (some ⟨p42,0,none⟩)])),(.int .i64 43,.held (.func (.func 127) #[] #[.pointer (some ⟨p43,0,none⟩)])),(.int .i64 44,.held (.func (.func 127) #[] #[.pointer (some ⟨p44,0,none⟩)])),(.int .i64 45,.held (.func (.func 127) #[] #[.pointer (some ⟨p45,0,none⟩)])),(.int .i64 46,.held (.func (.func 127) #[] #[.pointer (some ⟨p46,0,none⟩)]))]) (m:=17) hown rfl rfl);have B17:=Nc (X19.out.grown hg);have L17:=Nc (show Below pA w w17∧pA+1 < w17.heap.size from⟨dD Z19.out.1 (Nat.le_succ _) hg (by have:=Z19.out.2.1;omega),by have:=Z19.out.2.1;have:=hg.size;omega⟩);have Q38_17:=Nc (show p38 < w17.heap.size from by have:=Q38_16.out;have:=hg.size;have:=Z19.out.2;have h9:=S19.out;omega);have Q39_17:=Nc (show p39 < w17.heap.size from by have:=Q39_16.out;have:=hg.size;have:=Z19.out.2;have h9:=S19.out;omega);have Q40_17:=Nc (show p40 < w17.heap.size from by have:=Q40_16.out;have:=hg.size;have:=Z19.out.2;have h9:=S19.out;omega);have Q41_17:=Nc (show p41 < w17.heap.size from by have:=Q41_16.out;have:=hg.size;have:=Z19.out.2;have h9:=S19.out;omega);have Q42_17:=Nc (show p42 < w17.heap.size from by have:=Q42_16.out;have:=hg.size;have:=Z19.out.2;have h9:=S19.out;omega);have Q43_17:=Nc (show p43 < w17.heap.size from by have:=Q43_16.out;have:=hg.size;have:=Z19.out.2;have h9:=S19.out;omega);have Q44_17:=Nc (show p44 < w17.heap.size from by have:=Q44_16.out;have:=hg.size;have:=Z19.out.2;have h9:=S19.out;omega);have Q45_17:=Nc (show p45 < w17.heap.size from by have:=Q45_16.out;have:=hg.size;have:=Z19.out.2;have h9:=S19.out;omega);have Q46_17:=Nc (show p46 < w17.heap.size from by have:=Q46_16.out;have:=hg.size;have:=Z19.out.2;have h9:=S19.out;omega);have Q19_17:=Nc (show p19 < w17.heap.size from by have:=Z19.out.2.2.1;have:=hg.size;omega);clear hown hg;go_wp2_with fail
 go_ret
 refine⟨pA+1,_,opsV pA p38 p39 p40 p41 p42 p43 p44 p45 p46 p19,rfl,HPA.out▸L17.out.1,⟨O17.out,by rw[HPA.out];omega,L17.out.2,F8 pA p38 p39 p40 p41 p42 p43 p44 p45 p46 p19,?_⟩⟩;refine CS w17 _ _ pA p38 p39 p40 p41 p42 p43 p44 p45 p46 p19 (pA+1) (fun x hx=>B17.out x ?_) ?_
 ·unfold opsL at hx
  simp only[List.mem_cons,List.not_mem_nil,or_false] at hx⊢;rcases hx with rfl|rfl|rfl|rfl|rfl|rfl|rfl|rfl|rfl|rfl|rfl<;>simp
 ·intro x hx
  rw[HPA.out];have h0:=L17.out.2;have q38:=Q38_17.out;have z38:=Z38.out.2.2.2;have q39:=Q39_17.out;have z39:=Z39.out.2.2.2;have q40:=Q40_17.out;have z40:=Z40.out.2.2.2;have q41:=Q41_17.out;have z41:=Z41.out.2.2.2;have q42:=Q42_17.out;have z42:=Z42.out.2.2.2;have q43:=Q43_17.out;have z43:=Z43.out.2.2.2;have q44:=Q44_17.out;have z44:=Z44.out.2.2.2;have q45:=Q45_17.out;have z45:=Z45.out.2.2.2;have q46:=Q46_17.out;have z46:=Z46.out.2.2.2;have q19:=Q19_17.out;have z19:=Z19.out.2.2.2;unfold opsL at hx;simp only[List.mem_cons,List.not_mem_nil,or_false] at hx;rcases hx with rfl|rfl|rfl|rfl|rfl|rfl|rfl|rfl|rfl|rfl|rfl<;>(constructor<;>simp only<;>omega)
end Go.Proofs.YthkcloapiefggaaGreatDoor
