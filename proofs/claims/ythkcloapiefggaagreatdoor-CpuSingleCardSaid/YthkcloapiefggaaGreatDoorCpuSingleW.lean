/- The walk of CpuSingle. -/
import Derived.Test.YthkcloapiefggaaGreatDoorRqz
import Derived.Test.YthkcloapiefggaaGreatDoorCst
import Derived.Test.YthkcloapiefggaaGreatDoorSmr
import Derived.Test.YthkcloapiefggaaGreatDoorSan
import Derived.Test.YthkcloapiefggaaGreatDoorXld
import Derived.Test.YthkcloapiefggaaGreatDoorXma
namespace Go.Proofs.YthkcloapiefggaaGreatDoor.cpuSingle
set_option linter.unusedVariables false
set_option linter.unusedSimpArgs false
set_option maxRecDepth 100000
set_option maxHeartbeats 1000000
open Go.ChangeShapes Go.WideShapes Go.RowKit
theorem wpList_load_g {P:Program} {ops:Array Oper} {rest:List Oper} {op:Oper} {a:Act} {w:World} {Q:Exit→Act→World→Prop} (hw:Region.wanted op (yielded ops a.tmps)=true) (ty:TypeId) (x:Operand) (ho:op.op= .load ty x)
  (b o:Nat) (hx:a.eval x= .pointer (some ⟨b,o,none⟩)) (cs:List Value) (d:TypeDesc) (hc:w.rangeAt b o cs)
  (hu:P.underlying ty=some d) (hd:d.isRow=true) (hi:(P.info? ty).map (·.size)=some cs.length)
  (h:wpList P ops Q rest (a.put op.dst (.agg cs.toArray)) w):wpList P ops Q (op::rest) a w:=
 wpList_step fun K hK=>by rw[if_pos hw];exact wp_load_mid ty x ho b o hx cs d hc hu hd hi (hK _ _ h)
theorem run2 (V:World) (Y:Sn) (k i:Int) (c d:Nat) (p q:Option Addr) (Z:Array Value):(((V.alloc (.cells Z 40)).alloc (.cells #[.int .i64 0,.int .u16 0] 47))).heap[V.heap.size]? =some (.cells Z 40 (0,0))
  ∧((((V.alloc (.cells Z 40)).alloc (.cells #[.int .i64 0,.int .u16 0] 47))).setRow V.heap.size (snA Y p c q d)).heap[V.heap.size+1]? =some (.cells #[.int .i64 0,.int .u16 0] 47 (0,0)):=by
 have h1:=heap_old _ (.cells #[.int .i64 0,.int .u16 0] 47) _ (heap_alloc_new V (.cells Z 40))
 have h2:=heap_alloc_new (V.alloc (.cells Z 40)) (.cells #[.int .i64 0,.int .u16 0] 47)
 rw[World.size_alloc] at h2
 exact⟨h1,(setRow_other _ _ _ _ (by omega)).trans h2⟩
theorem stepR_len (I:Im) (T:Tp) (S:Ms):(stepR I T S).1.out.length≤S.out.length+1:=by
 rw[stepR_eq]
 have h:=rok_step I T S
 cases hr:stepP I T S with
 | ok S'=>exact h.out S' hr
 | tr k i=>show S.out.length≤_;omega
theorem four {z:List Int} (h:z.length=4):∃ a b c d,z=[a,b,c,d]:=by
 match z,h with
 | [a,b,c,d],_=>exact⟨a,b,c,d,rfl⟩
theorem five {z:List Int} (h:z.length=5):∃ a b c d e,z=[a,b,c,d,e]:=by
 match z,h with
 | [a,b,c,d,e],_=>exact⟨a,b,c,d,e,rfl⟩
theorem eight {z:List Int} (h:z.length=8):∃ a b c d e f g i,z=[a,b,c,d,e,f,g,i]:=by
 match z,h with
 | [a,b,c,d,e,f,g,i],_=>exact⟨a,b,c,d,e,f,g,i,rfl⟩
structure Bn (Q R M:Array Value) (w W:World):Prop where
 q:W.heap[w.heap.size]? =some (.cells Q 53 (0,0))
 r:W.heap[w.heap.size+1]? =some (.cells R 34 (0,0))
 n:W.heap[w.heap.size+1+1]? =some (.cells M 23 (0,0))
 bel:Below w.heap.size w W
theorem Bn.new (Q R M:Array Value) (w:World):Bn Q R M w (((w.alloc (.cells Q 53)).alloc (.cells R 34)).alloc (.cells M 23)):=by
 have h1:=heap_alloc_new (w.alloc (.cells Q 53)) (.cells R 34)
 rw[World.size_alloc] at h1
 have h2:=heap_alloc_new ((w.alloc (.cells Q 53)).alloc (.cells R 34)) (.cells M 23)
 rw[World.size_alloc,World.size_alloc] at h2
 exact⟨heap_old _ _ _ (heap_old _ _ _ (heap_alloc_new w _)),heap_old _ _ _ h1,h2,(((Below.refl _ w).alloc (Nat.le_refl _) _).alloc (by simp) _).alloc (by simp;omega) _⟩
theorem Bn.next {Q R M:Array Value} {w W V:World} (h:Bn Q R M w W) (hb:Below W.heap.size W V):Bn Q R M w V:=
 ⟨block_next h.q hb,block_next h.r hb,block_next h.n hb,h.bel.trans (hb.mono h.bel.size)⟩
theorem infoQ5:(Tryz.prog.info? 53).map (·.size)=some 5:=by kernel_rfl
theorem infoR8:(Tryz.prog.info? 34).map (·.size)=some 8:=by kernel_rfl
def oneV (s:ByteArray) (v:Int):Im:=⟨[pageB 0 s],0,v,[],[]⟩
theorem oneV_ok {s:ByteArray} {v:Int} (hv:U16 v):(oneV s v).Ok:=⟨Int.le_refl 0,(show(0:Int) < 65536 by decide),hv.1,hv.2,by intro b hb;simp[oneV] at hb;subst hb;rw[page_size];decide,by intro x hx;simp[oneV] at hx,by intro x hx;simp[oneV] at hx,(show 1≤1000000000 by decide),Nat.zero_le _,Nat.zero_le _⟩
theorem oneV_has {V:World} {g:Nat} {s:ByteArray} {v:Int} (h:V.heap[g]? =some (.cells #[.string (pageB 0 s)] 9 (0,0))):Has V (oneP g) (oneV s v):=
 ⟨fun j x hx=>⟨g,rfl,block_cells h j x (by rw[← hx];simp[bankC,oneV])⟩,Sl.nil _ _,Sl.nil _ _⟩
theorem LdT.set8 {W1:World} {g:Nat} {X:Sn} {p:Option Addr} {c:Nat} {V:World} (h:LdT W1 g X p c V) (r0 r1 r2 r3 r4 r5 r6 r7:Int) (hu:∀ x∈[r0,r1,r2,r3,r4,r5,r6,r7],U16 x):
  ∃ X':Sn,X'.stk=X.stk∧LdT W1 g X' p c (V.setCells g 0 [.int .u16 r0,.int .u16 r1,.int .u16 r2,.int .u16 r3,.int .u16 r4,.int .u16 r5,.int .u16 r6,.int .u16 r7]):=
 by
 have h1:=(((((((h.reg 0 (by decide) r0 (hu _ (by simp))).reg 1 (by decide) r1 (hu _ (by simp))).reg 2 (by decide) r2 (hu _ (by simp))).reg 3 (by decide) r3 (hu _ (by simp))).reg 4 (by decide) r4 (hu _ (by simp))).reg 5 (by decide) r5 (hu _ (by simp))).reg 6 (by decide) r6 (hu _ (by simp))).reg 7 (by decide) r7 (hu _ (by simp))
 refine⟨_,?_,h1⟩
 rfl
theorem LdT.there8 {W1:World} {g:Nat} {X:Sn} {p:Option Addr} {c:Nat} {V:World} (h:LdT W1 g X p c V):V.there g 0 8:=fun j hj=>by
 rw[Nat.zero_add]
 refine⟨?_,h.frz j⟩
 have hs:j < (snA X p c none 0).size:=by show j < 19;omega
 rw[h.at j _ (Array.getElem?_eq_getElem hs)];rfl
theorem LdT.cFP {W1:World} {g:Nat} {X:Sn} {p:Option Addr} {c:Nat} {V:World} (h:LdT W1 g X p c V) (y:Int) (hy:U16 y):LdT W1 g { X with fp:=y } p c (V.setCell ⟨g,10,none⟩ (.int .u16 y)):=
 h.set 10 _ rfl rfl rfl { h.ok with fp:=hy } h.ram
theorem and15 (n:Int):0≤bits .and .i64 n 15∧bits .and .i64 n 15≤15:=by
 have h:(BitVec.ofInt 64 n &&& BitVec.ofInt 64 15).toNat≤15:=by rw[BitVec.toNat_and];exact Nat.le_trans Nat.and_le_right (by decide)
 show 0≤IntKind.i64.wrap ((BitVec.ofInt 64 n &&& BitVec.ofInt 64 15).toNat:Int)∧IntKind.i64.wrap ((BitVec.ofInt 64 n &&& BitVec.ofInt 64 15).toNat:Int)≤15
 rw[IntKind.wrap_i64];omega
theorem i64_w (x:Int):I64 (IntKind.i64.wrap x):=by unfold I64;rw[IntKind.wrap_i64];omega
theorem tp_ok:Tp.Ok ⟨[77],[1]⟩:=⟨by simp[U16],by simp,by simp,by simp⟩
theorem sl_next {W V:World} {p:Option Addr} {cs:List Value} (h:Sl W p cs) (hb:Below W.heap.size W V):Sl V p cs:=fun j x hx=>by
 obtain⟨g,e,hc⟩:=h j x hx
 exact⟨g,e,cell_next hc hb⟩
set_option maxHeartbeats 20000000 in
theorem walk (w:World) (zq:List Int) (hq:zq.length=5) (hqu:∀ x∈zq,I64 x) (zr:List Int) (hr:zr.length=8) (hru:∀ x∈zr,U16 x) (zn:List Int) (hn:zn.length=4) (hnu:∀ x∈zn,I64 x) (ht:TabF w)
  (hsan:∀ W,TabF W→Calls Tryz.prog 12 #[] W fun e w'=>e= .returned (.bool true)∧Below W.heap.size W w'):
  Calls Tryz.prog 5 #[.agg (zq.map (Value.int .i64)).toArray,.agg (zr.map (Value.int .u16)).toArray,.agg (zn.map (Value.int .i64)).toArray] w fun e w'=>e= .returned (.bool true)∧Below w.heap.size w w':=by
 obtain⟨q0,q1,q2,q3,q4,rfl⟩:=five hq
 obtain⟨r0,r1,r2,r3,r4,r5,r6,r7,rfl⟩:=eight hr
 obtain⟨n0,n1,n2,n3,rfl⟩:=four hn
 show Calls Tryz.prog 5 #[.agg #[.int .i64 q0,.int .i64 q1,.int .i64 q2,.int .i64 q3,.int .i64 q4],.agg #[.int .u16 r0,.int .u16 r1,.int .u16 r2,.int .u16 r3,.int .u16 r4,.int .u16 r5,.int .u16 r6,.int .u16 r7],.agg #[.int .i64 n0,.int .i64 n1,.int .i64 n2,.int .i64 n3]] w _
 have HPos:Hid (0 < w.heap.size):=Lib.hid (by obtain⟨_,_,h⟩:=ht;exact lt_of_block h)
 have HTab:=Lib.hid ht
 have HSan:=Lib.hid hsan
 have HRu:=Lib.hid hru
 have hB0:=Bn.new #[.int .i64 q0,.int .i64 q1,.int .i64 q2,.int .i64 q3,.int .i64 q4] #[.int .u16 r0,.int .u16 r1,.int .u16 r2,.int .u16 r3,.int .u16 r4,.int .u16 r5,.int .u16 r6,.int .u16 r7] #[.int .i64 n0,.int .i64 n1,.int .i64 n2,.int .i64 n3] w
 clear ht hsan hru hqu hnu hq hr hn
 go_enter Tryz.func5,Tryz.ntmps5
 go_upto_region 1 with fail
 obtain⟨W0,hW0⟩:∃ W,((w.alloc (.cells #[.int .i64 q0,.int .i64 q1,.int .i64 q2,.int .i64 q3,.int .i64 q4] 53)).alloc (.cells #[.int .u16 r0,.int .u16 r1,.int .u16 r2,.int .u16 r3,.int .u16 r4,.int .u16 r5,.int .u16 r6,.int .u16 r7] 34)).alloc (.cells #[.int .i64 n0,.int .i64 n1,.int .i64 n2,.int .i64 n3] 23)=W:=⟨_,rfl⟩
 rw[hW0] at hB0
 rw[hW0]
 have HB0:=Lib.hid hB0
 clear hW0 hB0
 obtain⟨m,hm⟩:∃ m,w.heap.size=m:=⟨_,rfl⟩
 have HN:=Lib.hid hm
 rw[hm]
 clear hm
 go_wp2_with fail
 refine(HSan.out _ (tabF_below HPos.out HTab.out HB0.out.bel)).mono ?_
 rintro e w1 ⟨rfl,hb1⟩
 have HB1:=Lib.hid (HB0.out.next hb1)
 clear hb1 HSan HB0
 have HRq:=Lib.hid (show w1.rangeAt m 0 [.int .i64 q0,.int .i64 q1,.int .i64 q2,.int .i64 q3,.int .i64 q4] from by rw[← HN.out];exact range_at HB1.out.q _ (fun j v hv=>by rw[← hv];simp))
 go_wp2_with (refine wpList_load_mid rfl 53 _ rfl m 0 rfl [.int .i64 q0,.int .i64 q1,.int .i64 q2,.int .i64 q3,.int .i64 q4] _ HRq.out Tryz.underlying53 rfl infoQ5 ?_)
 refine(made_any q0 q1 q2 q3 q4 w1).mono ?_
 rintro e w2 ⟨rfl,hb2⟩
 have HB2:=Lib.hid (HB1.out.next hb2)
 obtain⟨ii,hii⟩:∃ ii,madeI q0 q1 q2 q3 q4=ii:=⟨_,rfl⟩
 have hok:ii.Ok:=by rw[← hii];exact(made_spec q0 q1 q2 q3 q4).1
 have hsz:(encS ii).size≤9:=(dec_enc (by rw[← hii];exact made_valid q0 q1 q2 q3 q4) ByteArray.empty).2.2.2.2.1
 rw[hii]
 have HEn:=Lib.hid (rencode_any ii w2 hok)
 have HSz:=Lib.hid hsz
 clear hii hok hsz hb2 HRq HB1
 go_wp2_with fail
 refine HEn.out.mono ?_
 rintro e w3 ⟨rfl,hb3⟩
 have HB3:=Lib.hid (HB2.out.next hb3)
 obtain⟨S,hS⟩:∃ S,encS ii=S:=⟨_,rfl⟩
 obtain⟨E,hE⟩:∃ E,encE ii=E:=⟨_,rfl⟩
 rw[hS] at HSz
 rw[hS,hE]
 clear hS hE hb3 HB2 HEn
 go_wp2_with fail
 refine(image_any S _ (by have:=HSz.out;omega)).mono ?_
 rintro e w5 ⟨⟨g,rfl,hg,hbk⟩,hb5⟩
 have HB5:=Lib.hid (HB3.out.next hb5)
 have HBk5:=Lib.hid hbk
 have hB6:=(Below.refl _ w5).alloc (Nat.le_refl _) (.cells #[.slice (some ⟨g,0,none⟩) 1 1,.int .u16 0,.int .u16 0,.slice none 0 0,.slice none 0 0] 33)
 have hBx:=heap_alloc_new w5 (.cells #[.slice (some ⟨g,0,none⟩) 1 1,.int .u16 0,.int .u16 0,.slice none 0 0,.slice none 0 0] 33)
 clear hb5 hg hbk HB3
 go_upto_region 4 with fail
 obtain⟨W6,hW6⟩:∃ W,w5.alloc (.cells #[.slice (some ⟨g,0,none⟩) 1 1,.int .u16 0,.int .u16 0,.slice none 0 0,.slice none 0 0] 33)=W:=⟨_,rfl⟩
 rw[hW6] at hBx hB6
 rw[hW6]
 obtain⟨n4,hn4⟩:∃ m,w5.heap.size=m:=⟨_,rfl⟩
 have HN4:=Lib.hid hn4
 rw[hn4] at hBx
 rw[hn4]
 have HBx:=Lib.hid hBx
 have HB6:=Lib.hid hB6
 clear hW6 hn4 hBx hB6
 have cn:W6.cell? ⟨m+1+1,0,none⟩=some (.int .i64 n0):=by rw[← HN.out];exact block_cells (HB5.out.next HB6.out).n 0 _ rfl
 have cv:W6.cell? ⟨n4,2,none⟩=some (.int .u16 0):=block_cells HBx.out 2 _ rfl
 have fv:=frozen_of_row W6 n4 2 _ _ HBx.out
 try simp only[Act.put]
 go_cut [10] from 27 to 31 (fun v wx=>v= .pointer (some ⟨n4,0,none⟩)∧∃ ve,U16 ve∧Hid (Below w5.heap.size w5 wx∧wx.heap[n4]? =some (.cells #[.slice (some ⟨g,0,none⟩) 1 1,.int .u16 0,.int .u16 ve,.slice none 0 0,.slice none 0 0] 33 (0,0))))
 case first=>
  have HP:=Lib.hid (fun y=>And.intro (setCell_below (j:=2) HB6.out (show w5.heap.size≤n4 by rw[HN4.out];exact Nat.le_refl _) (.int .u16 y)) (hsc_same W6 n4 2 (.int .u16 y) _ _ _ HBx.out))
  go_wp2_with fail
  go_meet
  exact⟨rfl,_,tm_w _,Lib.hid (HP.out _)⟩
 case rest=>
 obtain⟨rfl,ve,hve,HI7⟩:=hcut
 obtain⟨W7,hW7⟩:∃ x,x=wc:=⟨_,rfl⟩
 subst hW7
 have HVe:=Lib.hid hve
 clear cn cv fv hve HBx HB6
 have HB7:=Lib.hid (HB5.out.next HI7.out.1)
 have HBk7:=Lib.hid (block_next HBk5.out HI7.out.1)
 have HR7:=Lib.hid (show W7.rangeAt n4 0 (imL (oneP g) (oneV S ve)) from range_at HI7.out.2 _ (fun j v hv=>by rw[← hv];simp[imL,oneP,oneV]))
 have HHas7:=Lib.hid (oneV_has (s:=S) (v:=ve) HBk7.out)
 clear HB5 HBk5 HBk7 HI7
 have HSt:=Lib.hid (pstart_own (oneP g) (oneV S ve) W7)
 go_wp2_with (refine wpList_load_mid rfl 33 _ rfl n4 0 rfl (imL (oneP g) (oneV S ve)) _ HR7.out Tryz.underlying33 rfl infoIm ?_)
 refine HSt.out.mono ?_
 rintro e w8 ⟨⟨gs,hgs,rfl,hsn,hbk⟩,hbl⟩
 have HT0:=Lib.hid (LdT.new (I:=oneV S ve) hbl hgs hbk (pX_ok0 rfl) #[.int .u16 0,.int .u16 0,.int .u16 0,.int .u16 0,.int .u16 0,.int .u16 0,.int .u16 0,.int .u16 0,.int .u16 0,.int .u16 0,.int .u16 0,.int .u16 0,.int .i64 0,.int .i64 0,.int .i64 0,.int .i64 0,.string ⟨#[]⟩,.slice none 0 0,.slice none 0 0])
 have HZ:=Lib.hid (heap_alloc_new w8 (.cells #[.int .u16 0,.int .u16 0,.int .u16 0,.int .u16 0,.int .u16 0,.int .u16 0,.int .u16 0,.int .u16 0,.int .u16 0,.int .u16 0,.int .u16 0,.int .u16 0,.int .i64 0,.int .i64 0,.int .i64 0,.int .i64 0,.string ⟨#[]⟩,.slice none 0 0,.slice none 0 0] 40))
 clear hgs hsn hbk hbl HSt
 go_upto_region 6 with(refine wpList_store_row rfl 40 _ _ rfl w8.heap.size (snA (pX (oneV S ve)) (some ⟨gs,0,none⟩) 2 none 0) rfl rfl 40 _ HZ.out infoSn (by rfl) (by simp[snA,Value.oneCell']) ?_)
 have HT1:=HT0.out
 obtain⟨V2,hV2⟩:∃ V,(w8.alloc (.cells #[.int .u16 0,.int .u16 0,.int .u16 0,.int .u16 0,.int .u16 0,.int .u16 0,.int .u16 0,.int .u16 0,.int .u16 0,.int .u16 0,.int .u16 0,.int .u16 0,.int .i64 0,.int .i64 0,.int .i64 0,.int .i64 0,.string ⟨#[]⟩,.slice none 0 0,.slice none 0 0] 40)).setRow w8.heap.size (snA (pX (oneV S ve)) (some ⟨gs,0,none⟩) 2 none 0)=V:=⟨_,rfl⟩
 rw[hV2] at HT1
 rw[hV2]
 obtain⟨n6,hn6⟩:∃ g,w8.heap.size=g:=⟨_,rfl⟩
 rw[hn6] at HT1
 rw[hn6]
 obtain⟨X,hX⟩:∃ X,pX (oneV S ve)=X:=⟨_,rfl⟩
 have hXl:X.stk.length=2:=by rw[← hX];rfl
 rw[hX] at HT1
 have HT:=Lib.hid HT1
 have HXl:=Lib.hid hXl
 clear HT1 HT0 HZ hV2 hn6 hX hXl
 have HNum:=Lib.hid (fun V (hb:Below W7.heap.size W7 V)=>show V.heap[m+1+1]? =some (.cells #[.int .i64 n0,.int .i64 n1,.int .i64 n2,.int .i64 n3] 23 (0,0))∧V.heap[m+1]? =some (.cells #[.int .u16 r0,.int .u16 r1,.int .u16 r2,.int .u16 r3,.int .u16 r4,.int .u16 r5,.int .u16 r6,.int .u16 r7] 34 (0,0)) from by rw[← HN.out];exact⟨(HB7.out.next hb).n,(HB7.out.next hb).r⟩)
 try simp only[Act.put]
 go_cut [11] from 34 to 38 (fun v wx=>v= .pointer (some ⟨n6,0,none⟩)∧∃ X:Sn,X.stk.length=2∧Hid (LdT W7 n6 X (some ⟨gs,0,none⟩) 2 wx))
 case first=>
  have cn:=block_cells (HNum.out _ HT.out.bel).1 0 _ rfl
  go_wp2_with fail
  refine(fill_ex _ 8192 _ (by decide)).mono ?_
  rintro e w7 ⟨⟨f5,rfl,hf5⟩,hbl⟩
  have HT2:=Lib.hid (HT.out.next hbl)
  have HT3:=Lib.hid (HT2.out.cRam f5 hf5)
  have k16:=HT2.out.at 16 _ rfl
  have r16:=HT2.out.frz 16
  clear cn hbl hf5
  go_wp2_with fail
  go_meet
  exact⟨rfl,{ X with ram:=f5 },HXl.out,HT3⟩
 case rest=>
 obtain⟨rfl,X,hXl,HT⟩:=hcut
 have HXl:=Lib.hid hXl
 clear hXl
 go_upto_region 7 with fail
 go_cut [11] from 39 to 41 (fun v wx=>v= .pointer (some ⟨n6,0,none⟩)∧∃ X:Sn,X.stk.length=2∧Hid (LdT W7 n6 X (some ⟨gs,0,none⟩) 2 wx))
 case first=>
  have HR8:=Lib.hid (show wc.rangeAt (m+1) 0 [.int .u16 r0,.int .u16 r1,.int .u16 r2,.int .u16 r3,.int .u16 r4,.int .u16 r5,.int .u16 r6,.int .u16 r7] from range_at (HNum.out _ HT.out.bel).2 _ (fun j v hv=>by rw[← hv];simp))
  have HT8:=Lib.hid (LdT.there8 HT.out)
  have HX8:=Lib.hid (LdT.set8 HT.out r0 r1 r2 r3 r4 r5 r6 r7 HRu.out)
  go_wp2_with (first
   | refine wpList_load_mid rfl 34 _ rfl (m+1) 0 rfl [.int .u16 r0,.int .u16 r1,.int .u16 r2,.int .u16 r3,.int .u16 r4,.int .u16 r5,.int .u16 r6,.int .u16 r7] _ HR8.out Tryz.underlying34 rfl infoR8 ?_
   | refine wpList_store_mid rfl 34 _ _ rfl n6 0 #[.int .u16 r0,.int .u16 r1,.int .u16 r2,.int .u16 r3,.int .u16 r4,.int .u16 r5,.int .u16 r6,.int .u16 r7] rfl rfl HT8.out infoR8 (by simp[Value.oneCell']) ?_)
  obtain⟨X2,hx2,hT2⟩:=HX8.out
  go_meet
  exact⟨rfl,X2,by rw[hx2];exact HXl.out,Lib.hid hT2⟩
 case rest=>
 obtain⟨rfl,X,hXl,HT⟩:=hcut
 have HXl:=Lib.hid hXl
 clear hXl
 go_upto_region 8 with fail
 go_cut [11] from 42 to 47 (fun v wx=>v= .pointer (some ⟨n6,0,none⟩)∧∃ X:Sn,X.stk.length=2∧Hid (LdT W7 n6 X (some ⟨gs,0,none⟩) 2 wx))
 case first=>
  have cn:=block_cells (HNum.out _ HT.out.bel).1 0 _ rfl
  have kk:=HT.out.at 11 _ rfl
  have rk:=HT.out.frz 11
  go_wp2_with fail
  go_meet
  exact⟨rfl,{ X with f:=IntKind.u16.wrap _ },HXl.out,Lib.hid (HT.out.cF _ (tm_w _))⟩
 case rest=>
 obtain⟨rfl,X,hXl,HT⟩:=hcut
 have HXl:=Lib.hid hXl
 clear hXl
 go_upto_region 9 with fail
 go_cut [11] from 48 to 52 (fun v wx=>v= .pointer (some ⟨n6,0,none⟩)∧∃ X:Sn,X.stk.length=2∧Hid (LdT W7 n6 X (some ⟨gs,0,none⟩) 2 wx))
 case first=>
  have cn:=block_cells (HNum.out _ HT.out.bel).1 2 _ rfl
  have kk:=HT.out.at 10 _ rfl
  have rk:=HT.out.frz 10
  go_wp2_with fail
  go_meet
  exact⟨rfl,{ X with fp:=IntKind.u16.wrap _ },HXl.out,Lib.hid (LdT.cFP HT.out _ (tm_w _))⟩
 case rest=>
 obtain⟨rfl,X,hXl,HT⟩:=hcut
 have HXl:=Lib.hid hXl
 clear hXl
 go_upto_region 10 with fail
 go_cut [11] from 53 to 57 (fun v wx=>v= .pointer (some ⟨n6,0,none⟩)∧∃ X:Sn,X.stk.length=2∧Hid (LdT W7 n6 X (some ⟨gs,0,none⟩) 2 wx))
 case first=>
  have cn:=block_cells (HNum.out _ HT.out.bel).1 3 _ rfl
  have kk:=HT.out.at 12 _ rfl
  have rk:=HT.out.frz 12
  go_wp2_with fail
  go_meet
  exact⟨rfl,{ X with bank:=IntKind.i64.wrap _ },HXl.out,Lib.hid (HT.out.cB _ (i64_w _))⟩
 case rest=>
 obtain⟨rfl,X,hXl,HT⟩:=hcut
 have HXl:=Lib.hid hXl
 clear hXl
 obtain⟨i0,hi,hz0,hz1,hz2⟩:=info_parts infoU
 obtain⟨t,ht⟩:∃ t:Nat,bits .and .i64 n1 15=(t:Int):=⟨(bits .and .i64 n1 15).toNat,by have:=(and15 n1).1;omega⟩
 have ht15:t≤15:=by have:=(and15 n1).2;omega
 go_wp2_with fail
 go_loopw [12] (fun vk wr=>∃ (k:Nat) (X:Sn) (p:Option Addr) (c:Nat),k≤t∧vk= .int .i64 k∧X.stk.length=2+k∧Hid (LdT W7 n6 X p c wr)) (fun vk _=>t - (intOf vk).toNat)
 case atStart=>exact⟨0,X,_,_,Nat.zero_le _,rfl,HXl.out,HT⟩
 case round=>
 obtain⟨k,X,p5,c5,hk,rfl,hXl,HT⟩:=hrel
 have HXl:=Lib.hid hXl
 clear hXl
 have cn:wr.cell? ⟨m+1+1,1,none⟩=some (.int .i64 n1):=block_cells (HNum.out _ HT.out.bel).1 1 _ rfl
 by_cases h8:k < t
 ·have h8':(k:Int) < t:=by omega
  have hk0:(0:Int)≤(k:Int):=by omega
  have cn1:wr.cell? ⟨m+1+1,2,none⟩=some (.int .i64 n2):=block_cells (HNum.out _ HT.out.bel).1 2 _ rfl
  have k17:wr.cell? ⟨n6,17,none⟩=some (.slice p5 X.stk.length c5):=HT.out.at 17 _ rfl
  have hls:=HT.out.bel.size
  go_wp2_with (at_builtin;refine wpList_append_own _ rfl _ _ 37 rfl W7.heap.size 29 i0 (.int .u16 0) 1 2 Tryz.underlying37 hi hz0 hz1 hz2 rfl (by decide) _ _ _ rfl (HT.out.own.alloc _) ⟨wr.heap.size,0,none⟩ 1 1 [.int .u16 (IntKind.u16.wrap (wrap64 (n2*k)))] rfl rfl (new_cells (heap_alloc_new wr (.cells #[.int .u16 (IntKind.u16.wrap (wrap64 (n2*k)))] 29))) (by simp[Value.oneCell']) (by have:=HXl.out;simp only[maxLen];omega) (by have:=HXl.out;omega) (by rw[World.size_alloc];omega) ?_)
  intro v3 w3 hown hgb hnn
  obtain⟨q,d,rfl,hbx,hT2⟩:=HT.out.app (tm_w _) hown hgb
  have HT2:=Lib.hid hT2
  have b17:=block_cells hbx 17 _ rfl
  have f17:=frozen_of_row w3 n6 17 _ _ hbx
  clear hown hgb hnn hbx hT2 k17 cn cn1
  go_wp2_with fail
  go_roundw
  case rel=>exact⟨k+1,{ X with stk:=X.stk++[IntKind.u16.wrap (wrap64 (n2*k))] },q,d,by omega,by go_num,(by have:=HXl.out;simp;omega),HT2⟩
  case measure=>simp[intOf];omega
 have h8':¬ (k:Int) < t:=by omega
 obtain rfl:k=t:=by omega
 have HXok:=Lib.hid HT.out.ok
 have HXo:=Lib.hid (show X.out.length=0 by rw[HT.out.out];rfl)
 have HcX:=Lib.hid (show X.stk.length≤c5 from own_cap HT.out.own)
 have HIok:=Lib.hid (oneV_ok (s:=S) HVe.out)
 obtain⟨I,hI⟩:∃ I,oneV S ve=I:=⟨_,rfl⟩
 rw[hI] at HR7 HHas7 HIok
 clear hI
 have hB:=((HT.out.bel.alloc HT.out.bel.size (.cells #[.int .u16 77] 29)).alloc (by have:=HT.out.bel.size;simp;omega) (.cells #[.int .u8 1] 5)).alloc (by have:=HT.out.bel.size;simp;omega) (.cells #[.slice (some ⟨wr.heap.size,0,none⟩) 1 1,.slice (some ⟨wr.heap.size+1,0,none⟩) 1 1] 43)
 have hb0:=HT.out.next (((Below.refl _ wr).alloc (Nat.le_refl _) (.cells #[.int .u16 77] 29)).alloc (by simp) (.cells #[.int .u8 1] 5) |>.alloc (by simp;omega) (.cells #[.slice (some ⟨wr.heap.size,0,none⟩) 1 1,.slice (some ⟨wr.heap.size+1,0,none⟩) 1 1] 43))
 have t1:=heap_old _ (.cells #[.slice (some ⟨wr.heap.size,0,none⟩) 1 1,.slice (some ⟨wr.heap.size+1,0,none⟩) 1 1] 43) _ (heap_old _ (.cells #[.int .u8 1] 5) _ (heap_alloc_new wr (.cells #[.int .u16 77] 29)))
 have t2:=heap_old _ (.cells #[.slice (some ⟨wr.heap.size,0,none⟩) 1 1,.slice (some ⟨wr.heap.size+1,0,none⟩) 1 1] 43) _ (heap_alloc_new (wr.alloc (.cells #[.int .u16 77] 29)) (.cells #[.int .u8 1] 5))
 have t3:=heap_alloc_new ((wr.alloc (.cells #[.int .u16 77] 29)).alloc (.cells #[.int .u8 1] 5)) (.cells #[.slice (some ⟨wr.heap.size,0,none⟩) 1 1,.slice (some ⟨wr.heap.size+1,0,none⟩) 1 1] 43)
 simp only[World.size_alloc] at t2 t3
 go_upto_region 16 with fail
 obtain⟨W9,hW9⟩:∃ W,((wr.alloc (.cells #[.int .u16 77] 29)).alloc (.cells #[.int .u8 1] 5)).alloc (.cells #[.slice (some ⟨wr.heap.size,0,none⟩) 1 1,.slice (some ⟨wr.heap.size+1,0,none⟩) 1 1] 43)=W:=⟨_,rfl⟩
 rw[hW9] at hB hb0 t1 t2 t3
 rw[hW9]
 obtain⟨nt,hnt⟩:∃ n,wr.heap.size=n:=⟨_,rfl⟩
 rw[hnt] at t1 t2 t3
 rw[hnt]
 have HX9:=Lib.hid (show SnBx X n6 p5 c5 none 0 W9 from⟨hb0.box,hb0.snH⟩)
 have HSl1:=Lib.hid (show Sl W9 (some ⟨nt,0,none⟩) (inC [77]) from fun j x hx=>⟨nt,rfl,block_cells t1 j x (by rw[← hx];simp[inC])⟩)
 have HSl2:=Lib.hid (show Sl W9 (some ⟨nt+1,0,none⟩) (irC [1]) from fun j x hx=>⟨nt+1,rfl,block_cells t2 j x (by rw[← hx];simp[irC])⟩)
 have HRT:=Lib.hid (show W9.rangeAt (nt+1+1) 0 [.slice (some ⟨nt,0,none⟩) 1 1,.slice (some ⟨nt+1,0,none⟩) 1 1] from range_at t3 _ (fun j v hv=>by rw[← hv];simp))
 have HR9:=Lib.hid (range_next HR7.out hB)
 have HHas9:=Lib.hid (HHas7.out.below hB)
 have HB0:=Lib.hid (show Below w.heap.size w W9 from HB7.out.bel.trans (hB.mono HB7.out.bel.size))
 have HXr:=Lib.hid HX9.out.range
 clear hB hb0 t1 t2 t3 hW9 hnt HR7 HHas7 HT
 obtain⟨R,hR⟩:∃ R,stepR I ⟨[77],[1]⟩ (loadP X)=R:=⟨_,rfl⟩
 have hlen:=stepR_len I ⟨[77],[1]⟩ (loadP X)
 rw[hR] at hlen
 have HLen:=Lib.hid (show(snapP R.1).out.length≤1 by show R.1.out.length≤1;have h:=HXo.out;have h2:(loadP X).out.length=X.out.length:=rfl;omega)
 have HC1:=Lib.hid (fun U (hb:Below W9.heap.size W9 U)=>cstep_any' (oneP g) I ⟨[77],[1]⟩ (some ⟨nt,0,none⟩) (some ⟨nt+1,0,none⟩) 1 1 X p5 none c5 0 U HIok.out tp_ok HXok.out (HHas9.out.below hb) (sl_next HSl1.out hb).slo (sl_next HSl2.out hb).slo (HX9.out.lists.below hb) (tabF_below HPos.out HTab.out (HB0.out.trans (hb.mono HB0.out.size))) (by have:=HXo.out;omega))
 have HC2:=Lib.hid (fun U (hb:Below W9.heap.size W9 U)=>rstep_any (oneP g) I ⟨[77],[1]⟩ (some ⟨nt,0,none⟩) (some ⟨nt+1,0,none⟩) 1 1 X p5 none c5 0 U HIok.out tp_ok HXok.out (HHas9.out.below hb) (sl_next HSl1.out hb).slo (sl_next HSl2.out hb).slo (HX9.out.lists.below hb) HcX.out (by have:=HXo.out;omega))
 rw[hR] at HC1 HC2
 clear hR hlen
 obtain⟨S9,k9,i9⟩:=R
 go_wp2_with (first
  | refine wpList_load_mid rfl 33 _ rfl n4 0 rfl (imL (oneP g) I) _ HR9.out Tryz.underlying33 rfl infoIm ?_
  | refine wpList_load_mid rfl 43 _ rfl (nt+1+1) 0 rfl [.slice (some ⟨nt,0,none⟩) 1 1,.slice (some ⟨nt+1,0,none⟩) 1 1] _ HRT.out Tryz.underlying43 rfl infoTp ?_
  | refine wpList_load_mid rfl 40 _ rfl n6 0 rfl (snL X p5 c5 none 0) _ HXr.out Tryz.underlying40 rfl infoSn ?_)
 refine(HC1.out W9 (Below.refl _ _)).mono ?_
 rintro e w10 ⟨⟨⟨pA,cA,qA,dA,rfl,hsA,_,_,hcA⟩,hok⟩,hb10⟩
 have HOk:=Lib.hid hok
 have HcA:=Lib.hid hcA
 have HZ:=Lib.hid (run2 w10 (snapP S9) 0 0 cA dA pA qA #[.int .u16 0,.int .u16 0,.int .u16 0,.int .u16 0,.int .u16 0,.int .u16 0,.int .u16 0,.int .u16 0,.int .u16 0,.int .u16 0,.int .u16 0,.int .u16 0,.int .i64 0,.int .i64 0,.int .i64 0,.int .i64 0,.string ⟨#[]⟩,.slice none 0 0,.slice none 0 0])
 have HA:=Lib.hid (RunBx.new (k:=k9) (i:=i9) (c:=cA) (d:=dA) hb10 hsA #[.int .u16 0,.int .u16 0,.int .u16 0,.int .u16 0,.int .u16 0,.int .u16 0,.int .u16 0,.int .u16 0,.int .u16 0,.int .u16 0,.int .u16 0,.int .u16 0,.int .i64 0,.int .i64 0,.int .i64 0,.int .i64 0,.string ⟨#[]⟩,.slice none 0 0,.slice none 0 0] (.int .i64 0) (.int .u16 0))
 clear hsA hb10 hok hcA
 unfold trapV snV
 go_upto_region 17 with(first
  | refine wpList_store_row rfl 40 _ _ rfl w10.heap.size (snA (snapP S9) pA cA qA dA) rfl rfl 40 _ HZ.out.1 infoSn (by rfl) (by simp[snA,Value.oneCell']) ?_
  | refine wpList_store_row rfl 47 _ _ rfl (w10.heap.size+1) #[.int .i64 k9,.int .u16 i9] rfl rfl 47 _ HZ.out.2 infoTr (by rfl) (by simp[Value.oneCell']) ?_)
 obtain⟨WA,hWA⟩:∃ W,(((w10.alloc (.cells #[.int .u16 0,.int .u16 0,.int .u16 0,.int .u16 0,.int .u16 0,.int .u16 0,.int .u16 0,.int .u16 0,.int .u16 0,.int .u16 0,.int .u16 0,.int .u16 0,.int .i64 0,.int .i64 0,.int .i64 0,.int .i64 0,.string ⟨#[]⟩,.slice none 0 0,.slice none 0 0] 40)).alloc (.cells #[.int .i64 0,.int .u16 0] 47)).setRow w10.heap.size (snA (snapP S9) pA cA qA dA)).setRow (w10.heap.size+1) #[.int .i64 k9,.int .u16 i9]=W:=⟨_,rfl⟩
 rw[hWA] at HA
 rw[hWA]
 obtain⟨BA,hBA⟩:∃ n,w10.heap.size=n:=⟨_,rfl⟩
 rw[hBA] at HA
 rw[hBA]
 clear hWA hBA HZ
 have HRB:=Lib.hid (range_next HR9.out HA.out.bel)
 have HRTB:=Lib.hid (range_next HRT.out HA.out.bel)
 have HXB:=Lib.hid (HX9.out.next HA.out.bel).range
 go_wp2_with (first
  | refine wpList_load_mid rfl 33 _ rfl n4 0 rfl (imL (oneP g) I) _ HRB.out Tryz.underlying33 rfl infoIm ?_
  | refine wpList_load_mid rfl 43 _ rfl (nt+1+1) 0 rfl [.slice (some ⟨nt,0,none⟩) 1 1,.slice (some ⟨nt+1,0,none⟩) 1 1] _ HRTB.out Tryz.underlying43 rfl infoTp ?_
  | refine wpList_load_mid rfl 40 _ rfl n6 0 rfl (snL X p5 c5 none 0) _ HXB.out Tryz.underlying40 rfl infoSn ?_)
 refine(HC2.out WA HA.out.bel).mono ?_
 rintro e w11 ⟨⟨pC,cC,qC,dC,rfl,hsC,_,_,hcC⟩,hb11⟩
 have HcC:=Lib.hid hcC
 have HZ:=Lib.hid (run2 w11 (snapP S9) 0 0 cC dC pC qC #[.int .u16 0,.int .u16 0,.int .u16 0,.int .u16 0,.int .u16 0,.int .u16 0,.int .u16 0,.int .u16 0,.int .u16 0,.int .u16 0,.int .u16 0,.int .u16 0,.int .i64 0,.int .i64 0,.int .i64 0,.int .i64 0,.string ⟨#[]⟩,.slice none 0 0,.slice none 0 0])
 have HC:=Lib.hid (RunBx.new (k:=k9) (i:=i9) (c:=cC) (d:=dC) hb11 hsC #[.int .u16 0,.int .u16 0,.int .u16 0,.int .u16 0,.int .u16 0,.int .u16 0,.int .u16 0,.int .u16 0,.int .u16 0,.int .u16 0,.int .u16 0,.int .u16 0,.int .i64 0,.int .i64 0,.int .i64 0,.int .i64 0,.string ⟨#[]⟩,.slice none 0 0,.slice none 0 0] (.int .i64 0) (.int .u16 0))
 clear hsC hb11 hcC
 unfold trapV snV
 go_upto_region 18 with(first
  | refine wpList_store_row rfl 40 _ _ rfl w11.heap.size (snA (snapP S9) pC cC qC dC) rfl rfl 40 _ HZ.out.1 infoSn (by rfl) (by simp[snA,Value.oneCell']) ?_
  | refine wpList_store_row rfl 47 _ _ rfl (w11.heap.size+1) #[.int .i64 k9,.int .u16 i9] rfl rfl 47 _ HZ.out.2 infoTr (by rfl) (by simp[Value.oneCell']) ?_)
 obtain⟨WC,hWC⟩:∃ W,(((w11.alloc (.cells #[.int .u16 0,.int .u16 0,.int .u16 0,.int .u16 0,.int .u16 0,.int .u16 0,.int .u16 0,.int .u16 0,.int .u16 0,.int .u16 0,.int .u16 0,.int .u16 0,.int .i64 0,.int .i64 0,.int .i64 0,.int .i64 0,.string ⟨#[]⟩,.slice none 0 0,.slice none 0 0] 40)).alloc (.cells #[.int .i64 0,.int .u16 0] 47)).setRow w11.heap.size (snA (snapP S9) pC cC qC dC)).setRow (w11.heap.size+1) #[.int .i64 k9,.int .u16 i9]=W:=⟨_,rfl⟩
 rw[hWC] at HC
 rw[hWC]
 obtain⟨BC,hBC⟩:∃ n,w11.heap.size=n:=⟨_,rfl⟩
 rw[hBC] at HC
 rw[hBC]
 clear hWC hBC HZ
 have HA:=Lib.hid (HA.out.next HC.out.bel)
 have rSA:=Lib.hid (range_at HA.out.snap (snL (snapP S9) pA cA qA dA) (fun j v hv=>by rw[← hv];simp[snL,snA]))
 have rFA:_=some (Value.int .i64 k9):=block_cells HA.out.trap 0 _ rfl
 have rGA:_=some (Value.int .u16 i9):=block_cells HA.out.trap 1 _ rfl
 have rSC:=Lib.hid (range_at HC.out.snap (snL (snapP S9) pC cC qC dC) (fun j v hv=>by rw[← hv];simp[snL,snA]))
 have rFC:_=some (Value.int .i64 k9):=block_cells HC.out.trap 0 _ rfl
 have rGC:_=some (Value.int .u16 i9):=block_cells HC.out.trap 1 _ rfl
 have heq:=eql_tr k9 i9 k9 i9
 simp only[and_self,decide_true] at heq
 have HSame:=Lib.hid (rsame_any (snapP S9) (snapP S9) pA qA cA dA pC qC cC dC WC HOk.out.sn HOk.out.sn HA.out.lists HC.out.lists HcA.out HcC.out (by have:=HLen.out;omega) (by have:=HLen.out;omega))
 have HFin:=Lib.hid (HB0.out.trans (HA.out.bel.mono HB0.out.size))
 go_wp2_with (first
  | refine wpList_load_g (by rfl) 40 _ rfl BA 0 rfl (snL (snapP S9) pA cA qA dA) _ rSA.out Tryz.underlying40 rfl infoSn ?_
  | refine wpList_load_g (by rfl) 40 _ rfl BC 0 rfl (snL (snapP S9) pC cC qC dC) _ rSC.out Tryz.underlying40 rfl infoSn ?_)
 refine HSame.out.mono ?_
 rintro e v1 ⟨⟨bb,rfl,hbb⟩,hb⟩
 obtain rfl:=hbb.2 ⟨rfl,rfl,rfl,rfl⟩
 have HFb:=Lib.hid (HFin.out.trans (hb.mono HFin.out.size))
 clear hb rSA rFA rGA rSC rFC rGC
 go_wp2_with fail
 go_ret
 exact⟨rfl,HFb.out⟩
end Go.Proofs.YthkcloapiefggaaGreatDoor.cpuSingle
