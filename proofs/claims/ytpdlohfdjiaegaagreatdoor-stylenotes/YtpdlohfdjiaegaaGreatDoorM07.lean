import Derived.Lib.Bytealg
import Derived.Lib.Walk
import Derived.Shelf.RegionOpenPlain
import Derived.RangeFuncNested
import Derived.RangeFuncBound
import Derived.RangeFuncCalls
import Derived.RangeFuncLeaves
import Derived.Shelf.Abstract
import Derived.Shelf.RegionOpen
import Derived.OwnWalkIn
import Derived.TacticsInMore
import Derived.LoopNIn
import Derived.LoopIn
import Derived.Deep.RegionWith
import Derived.Test.YtpdlohfdjiaegaaGreatDoorM04
set_option linter.unusedVariables false
set_option linter.unusedSimpArgs false
namespace Go.Proofs.YtpdlohfdjiaegaaGreatDoor.Lx
open Go.RowKit
theorem ixb:∀l:List UInt8,(Lib.indexByte l 10=-1∧∀k:Nat,k<l.length→l[k]?≠some (10:UInt8))∨∃j:Nat,Lib.indexByte l 10=(j:Int)∧j<l.length∧l[j]?=some (10:UInt8)∧∀k,k<j→l[k]?≠some (10:UInt8)
 |[]=>.inl ⟨rfl,fun k h=>by simp at h⟩
 |b :: l=>by
  unfold Lib.indexByte
  by_cases hb:b=10
  ·exact .inr ⟨0,by simp [hb],by simp,by simp [hb],fun k h=>by omega⟩
  ·have hb':(b == (10:UInt8))=false:=by simpa using hb
   rw [hb']
   rcases ixb l with ⟨h1,h2⟩|⟨j,h1,h2,h3,h4⟩
   ·left
    refine ⟨by simp [h1],fun k hk=>?_⟩
    cases k with
    |zero=>simpa using hb
    |succ k=>simp only [List.getElem?_cons_succ];exact h2 k (by simpa using hk)
   ·right
    refine ⟨j+1,?_,by simp;omega,by simpa using h3,fun k hk=>?_⟩
    ·have:¬((j:Int)=-1):=by omega
     simp [h1,this]
    ·cases k with
     |zero=>simpa using hb
     |succ k=>simp only [List.getElem?_cons_succ];exact h4 k (by omega)
theorem by8_list (s:ByteArray) (k:Nat) (h:k<s.size):by8 s k=10↔s.data.toList[k]?=some (10:UInt8):=by
 have hz:k<s.data.size:=h
 have e:s.get! k=s.data.toList[k]?.getD default:=by
  show s.data[k]! = _
  rw [Array.getElem!_eq_getD,Array.getD_eq_getD_getElem?,Array.getElem?_toList]
 unfold by8
 rw [e,Array.getElem?_toList,Array.getElem?_eq_getElem hz]
 simp
 constructor
 ·intro h;exact UInt8.toNat_inj.1 h
 ·intro h;rw [h];rfl
def nlI (r:ByteArray):Int:=if nl r 0<r.size then (nl r 0:Int) else -1
theorem index_nl (r:ByteArray):Lib.indexByte r.data.toList 10=nlI r:=by
 have hz:r.data.toList.length=r.size:=by simp
 rcases ixb r.data.toList with ⟨h1,h2⟩|⟨j,h1,h2,h3,h4⟩
 ·have e:nl r 0=r.size:=nl_eq r 0 r.size (Nat.zero_le _) (Nat.le_refl _) (fun k _ hk=>fun hc=>h2 k (by omega) ((by8_list r k hk).1 hc)) (.inl rfl)
  rw [h1];unfold nlI;rw [if_neg (by omega)]
 ·have e:nl r 0=j:=nl_eq r 0 j (Nat.zero_le _) (by omega) (fun k _ hk=>fun hc=>h4 k hk ((by8_list r k (by omega)).1 hc)) (.inr ((by8_list r j (by omega)).2 h3))
  rw [h1];unfold nlI;rw [if_pos (by omega),e]
set_option maxRecDepth 100000 in
set_option maxHeartbeats 400000 in
theorem ixbyte_any (s:ByteArray) (w:World) :
  Calls Tryz.prog 234 #[.string s,.int .u8 10] w fun e w'=>e=.returned (.int .i64 (nlI s))∧w'=w:=by
 go_enter Tryz.func234,Tryz.ntmps234
 go_wp2
 rw [run_callFunc_extern Tryz.func248 (by kernel_rfl) (by kernel_rfl) (by kernel_rfl) (e:=Extern.BytealgIndexByte.indexByte) (by kernel_rfl),Lib.run_indexByteString]
 simp only [Result.andThen]
 rw [Oper.upon_value]
 go_wp2
 go_ret
 exact ⟨by rw [←index_nl];rfl,rfl⟩
set_option maxRecDepth 100000 in
set_option maxHeartbeats 1000000 in
theorem index_any (s:ByteArray) (w:World) :
  Calls Tryz.prog 246 #[.string s,.string ⟨#[10]⟩] w fun e w'=>e=.returned (.int .i64 (nlI s))∧w'=w:=by
 go_enter Tryz.func246,Tryz.ntmps246
 go_wp2_with (go_at_call 234;refine (ixbyte_any _ _).mono ?_;rintro e w' ⟨rfl,rfl⟩)
 ·have h:([(10:UInt8)] == s.toList)=true:=by assumption
  have e:s.data.toList=[10]:=by rw [←Lib.toList_data];exact (beq_iff_eq.1 h).symm
  have e2:nlI s=0:=by rw [←index_nl,e];rfl
  go_ret
  exact ⟨by rw [e2];rfl,rfl⟩
 ·go_ret
  exact ⟨rfl,rfl⟩
def cutL (r:ByteArray):ByteArray:=r.extract 0 (nl r 0)
def cutR (r:ByteArray):ByteArray:=if nl r 0<r.size then r.extract (nl r 0+1) r.size else ⟨#[]⟩
def cutB (r:ByteArray):Bool:=decide (nl r 0<r.size)
set_option maxHeartbeats 1000000 in
theorem slcut_any (s:ByteArray) (w:World) (hs:s.size≤maxLen) :
  Calls Tryz.prog 237 #[.string s,.string ⟨#[10]⟩] w fun e w'=>e=.returned (.tuple #[.string (cutL s),.string (cutR s),.bool (cutB s)])∧Below w.heap.size w w':=by
 unfold maxLen at hs
 have hn:=nl_facts s 0 (Nat.zero_le _)
 by_cases h:nl s 0<s.size
 ·have Hi:Hid (nlI s=(nl s 0:Int)):=by show _=_;unfold nlI;rw [if_pos h]
  have HL:Hid (cutL s=s.extract 0 (nl s 0)):=rfl
  have HR:Hid (cutR s=s.extract (nl s 0+1) s.size):=by show _=_;unfold cutR;rw [if_pos h]
  have HB:Hid (cutB s=true):=by show _=_;unfold cutB;simp [h]
  obtain ⟨n,hn'⟩:∃n,nl s 0=n:=⟨_,rfl⟩
  rw [hn'] at Hi HL HR hn h
  clear hn'
  go_enter Tryz.func237,Tryz.ntmps237
  go_wp2_with (go_at_call 246;refine (index_any _ _).mono ?_;rintro e w' ⟨rfl,rfl⟩;rw [Hi.out])
  go_region
  go_wp2
  go_ret3
  exact ⟨by rw [HL.out,HR.out,HB.out];rfl,(Below.refl _ _).drew⟩
 ·have Hi:Hid (nlI s=-1):=by show _=_;unfold nlI;rw [if_neg h]
  have HL:Hid (cutL s=s):=by show _=_;unfold cutL;rw [show nl s 0=s.size by omega,extract_all]
  have HR:Hid (cutR s=⟨#[]⟩):=by show _=_;unfold cutR;rw [if_neg h]
  have HB:Hid (cutB s=false):=by show _=_;unfold cutB;simp [h]
  clear hn h
  go_enter Tryz.func237,Tryz.ntmps237
  go_wp2_with (go_at_call 246;refine (index_any _ _).mono ?_;rintro e w' ⟨rfl,rfl⟩;rw [Hi.out])
  go_ret3
  exact ⟨by rw [HL.out,HR.out,HB.out];rfl,Below.refl _ _⟩
set_option maxHeartbeats 1000000 in
theorem cut_any (s:ByteArray) (w:World) (hs:s.size≤maxLen) :
  Calls Tryz.prog 216 #[.string s,.string ⟨#[10]⟩] w fun e w'=>e=.returned (.tuple #[.string (cutL s),.string (cutR s),.bool (cutB s)])∧Below w.heap.size w w':=by
 go_enter Tryz.func216,Tryz.ntmps216
 go_wp2_with (go_at_call 237;refine (slcut_any _ _ hs).mono ?_;rintro e w' ⟨rfl,hb⟩)
 go_ret3
 exact ⟨rfl,hb⟩
set_option maxHeartbeats 1000000 in
theorem lines_any (s:ByteArray) (w:World) :
  Calls Tryz.prog 185 #[.string s] w fun e w'=>e=.returned (.func (.func 215) #[] #[.pointer (some ⟨w.heap.size,0,none⟩)])∧w'=w.alloc (.cells #[.string s] 9):=by
 have hmf:∀(fn:Fn) (first cap:Array Value) (w:World),(Instr.makeFunc fn first cap).run Tryz.prog w=.ok (.func fn first cap) w:=fun _ _ _ _=>rfl
 go_enter Tryz.func185,Tryz.ntmps185
 go_wp2
 go_ret
 exact ⟨rfl,rfl⟩
end Go.Proofs.YtpdlohfdjiaegaaGreatDoor.Lx
namespace Go.Proofs.YtpdlohfdjiaegaaGreatDoor.Lx
open Go.RowKit Go.Shelf
attribute [local go_sem] Oper.semAt_some
def LN (s:ByteArray):Nat:=cn s s.size+1
def upto (s:ByteArray) (k:Nat):List (Int × ByteArray):=(List.range k).map (fun i=>(((i+1:Nat):Int),ln s i))
theorem upto_succ (s:ByteArray) (k:Nat):upto s (k+1)=upto s k++[(((k+1:Nat):Int),ln s k)]:=by
 unfold upto;rw [List.range_succ,List.map_append];rfl
theorem upto_len (s:ByteArray) (k:Nat):(upto s k).length=k:=by unfold upto;simp
theorem nl_tail (s:ByteArray) (a:Nat) (ha:a≤s.size):nl (s.extract a s.size) 0=nl s a-a:=by
 have z:=size_ext s a s.size (Nat.le_refl _)
 obtain ⟨h1,h2,h3,h4⟩:=nl_facts s a ha
 refine nl_eq _ 0 _ (Nat.zero_le _) (by omega) (fun k _ hk=>?_) ?_
 ·rw [by8_ext' s a s.size k (by omega)];exact h3 _ (by omega) (by omega)
 ·by_cases e:nl s a=s.size
  ·left;omega
  ·right;rw [by8_ext' s a s.size _ (by omega),show a+(nl s a-a)=nl s a by omega];exact h4 (by omega)
theorem cut_ln (s:ByteArray) (k:Nat) (h:k<LN s):cutL (s.extract (bg s k) s.size)=ln s k∧cutB (s.extract (bg s k) s.size)=decide (k+1<LN s) ∧
  (k+1<LN s→cutR (s.extract (bg s k) s.size)=s.extract (bg s (k+1)) s.size):=by
 unfold LN at h ⊢
 have hb:=bg_facts s k (by omega)
 obtain ⟨h1,h2,h3⟩:=nl_bg s k (by omega)
 have z:=size_ext s (bg s k) s.size (Nat.le_refl _)
 have e:=nl_tail s (bg s k) hb.1
 refine ⟨?_,?_,fun hk=>?_⟩
 ·unfold cutL;rw [e,ext_ext s (bg s k) s.size 0 _ (Nat.le_refl _) (by omega) (Nat.zero_le _),Nat.add_zero,show bg s k+(nl s (bg s k)-bg s k)=nl s (bg s k) by omega];rfl
 ·unfold cutB;rw [e,z]
  by_cases hc:nl s (bg s k)<s.size
  ·have:=h3.1 hc
   rw [decide_eq_true (by omega),decide_eq_true (by omega)]
  ·have:¬k<cn s s.size:=fun hh=>hc (h3.2 hh)
   rw [decide_eq_false (by omega),decide_eq_false (by omega)]
 ·have hc:=h3.2 (by omega)
  unfold cutR;rw [e,z,if_pos (by omega),ext_ext s (bg s k) s.size _ _ (Nat.le_refl _) (by omega) (by omega)]
  show s.extract _ _=s.extract (nl s (bg s k)+1) _
  congr 1 <;> omega
abbrev Ln:={ x:Int × ByteArray // x.2.size≤maxLen }
abbrev lencs (x:Ln):Array Value:=#[.int .i64 x.1.1,.string x.1.2]
theorem grown_of_below {w w':World}(h:Below w.heap.size w w'):w.grownBy w' none:=⟨h.os,h.tape,h.output,h.size,fun k hk _=>h.block k hk⟩
theorem keeps_of_below {w w':World}(h:Below w.heap.size w w'):KeepsOthers w w':=KeepsOthers.of_grownBy (grown_of_below h) (fun _ _ e=>by cases e)
set_option maxRecDepth 100000 in
set_option maxHeartbeats 2000000 in
theorem lines_stops (n:Nat) (hn:1≤n) (Bn:Nat) (s:ByteArray) (hs:s.size≤2147483647) (w:World) (hB:Bn<w.heap.size) (hc:w.cell? ⟨Bn,0,none⟩=some (.string s)) :
  SeqStopsK Fence.wide n Tryz.prog 215 #[.pointer (some ⟨Bn,0,none⟩)] lencs (fun _ _=>True) (fun xs=>xs.map (·.1)=upto s (LN s)) (fun pre=>∃k,k≤LN s∧pre.map (·.1)=upto s k) (LN s) w:=fun l J Jx W hW hJ hJx hY h0=>by
 have hL:LN s≤2147483648:=by have:=cn_le s s.size;unfold LN;omega
 have hcW:W.cell? ⟨Bn,0,none⟩=some (.string s):=(hW.cell (p:=⟨Bn,0,none⟩) hB).trans hc
 refine callsIn_of_wp Tryz.func215 rfl trivial ?_ rfl
 simp only [Tryz.ntmps215,List.size_toArray,List.length_cons,List.length_nil,Nat.reduceAdd,Nat.reduceSub,Array.replicate_succ,Array.replicate_zero,List.push_toArray,List.append_toArray,List.nil_append,List.cons_append]
 gi_wp2
 gi_loopw [3,4,5] (fun r b m wr=>∃(k:Nat) (pre:List Ln) (q:ByteArray) (z:Int),r=.string q∧b=.bool (decide (k<LN s))∧m=.int .i64 z∧Hid (z=((k+1:Nat):Int))∧Hid (k≤LN s)∧Hid (pre.map (·.1)=upto s k)∧Hid (k<LN s→q=s.extract (bg s k) s.size)∧J pre wr)
  (fun _ _ m _=>LN s+1-(RowKit.intOf m).toNat)
 case atStart=>
  refine ⟨0,[],s,1,rfl,by rw [decide_eq_true (by unfold LN;omega)],rfl,rfl,Nat.zero_le _,rfl,?_,h0⟩
  intro _;rw [show bg s 0=0 from rfl,extract_all]
 case round=>
  obtain ⟨k,pre,q,z,rfl,rfl,rfl,HZ,HK,HP,HQ,hJs⟩:=hrel
  by_cases hk:k<LN s
  ·obtain ⟨e1,e2,e3⟩:=cut_ln s k hk
   have hq:=HQ.out hk
   have hqs:q.size≤maxLen:=by rw [hq,size_ext _ _ _ (Nat.le_refl _)];unfold maxLen;omega
   have hls:(ln s k).size≤maxLen:=by have:=ln_size s k (by unfold LN at hk;omega);unfold maxLen;omega
   rw [←hq] at e1 e2 e3
   obtain ⟨b,hb⟩:∃b,decide (k<LN s)=b:=⟨_,rfl⟩
   have hbt:b=true:=by rw [←hb];exact decide_eq_true hk
   rw [hb,hbt]
   have HE1:Hid (cutL q=ln s k):=e1
   have HE2:Hid (cutB q=decide (k+1<LN s)):=e2
   have HE3:Hid (k+1<LN s→cutR q=s.extract (bg s (k+1)) s.size):=e3
   have HKL:Hid (k<LN s):=hk
   have hz1:0≤z:=by have:=HZ.out;omega
   have hz2:z≤2147483648:=by have:=HZ.out;omega
   have HLEN:Hid (pre.length<LN s):=by
    show _<_
    have:=congrArg List.length HP.out
    rw [upto_len,List.length_map] at this;omega
   clear e1 e2 e3 hq hb hbt HQ hk
   obtain ⟨L,hLL⟩:∃L,ln s k=L:=⟨_,rfl⟩
   obtain ⟨CL,hCL⟩:∃L,cutL q=L:=⟨_,rfl⟩
   obtain ⟨CR,hCR⟩:∃L,cutR q=L:=⟨_,rfl⟩
   obtain ⟨CB,hCB⟩:∃L,cutB q=L:=⟨_,rfl⟩
   have hcut:∀w,Calls Tryz.prog 216 #[.string q,.string ⟨#[10]⟩] w fun e w'=>e=.returned (.tuple #[.string CL,.string CR,.bool CB])∧Below w.heap.size w w':=by
    intro w;rw [←hCL,←hCR,←hCB];exact cut_any q w hqs
   rw [hCL,hLL] at HE1
   rw [hCB] at HE2
   rw [hCR] at HE3
   rw [hLL] at hls
   obtain rfl:=HE1.out
   have HLL:Hid (ln s k=CL):=hLL
   clear hCL hCR hCB hLL
   gi_wp2
   refine ⟨trivial,?_⟩
   refine (callsIn_wide.2 (hcut _)).mono ?_
   rintro e w1 ⟨rfl,hb1⟩
   have hJ1:=hJ pre _ w1 none hJs (grown_of_below hb1) (fun r e=>by cases e)
   obtain ⟨fn,tmps,assign,body,hy,hR⟩:=hY pre ⟨(z,CL),hls⟩ w1 hJ1 HLEN.out
   dsimp only [lencs] at hy
   gi_wp2
   refine hR.mono ?_
   rintro e W3 (⟨rfl,hJ3,_⟩|⟨rfl,hJx3⟩)
   ·gi_wp2
    go_roundw
    case rel=>exact ⟨k+1,pre++[⟨(z,CL),hls⟩],CR,z+1,rfl,by rw [HE2.out],by go_num,by show _=_;rw [HZ.out];omega,HKL.out,by show _=_;rw [List.map_append,HP.out,upto_succ,HLL.out,HZ.out];rfl,HE3.out,hJ3⟩
    case measure=>simp [RowKit.intOf];have:=HZ.out;have:=HKL.out;omega
   ·gi_wp2
    refine bodyPost_ret (results_none rfl _ _ _) rfl ?_
    exact ⟨⟨_,rfl⟩,.inr ⟨pre++[⟨(z,CL),hls⟩],⟨k+1,HKL.out,by rw [List.map_append,HP.out,upto_succ,HLL.out,HZ.out];rfl⟩,hJx3⟩⟩
  ·have hbf:decide (k<LN s)=false:=decide_eq_false hk
   rw [hbf]
   have HE:Hid (k=LN s):=by show _=_;have:=HK.out;omega
   clear hbf hk HQ
   gi_wp2
   go_end0
   exact ⟨⟨_,rfl⟩,.inl ⟨pre,by rw [HP.out,HE.out],hJs⟩⟩
attribute [local go_sem] Oper.semAt_some
attribute [local go_sem] Oper.semAt_some
def plV (a l c:Int):Value:=.agg #[.int .i64 a,.int .i64 l,.int .i64 c]
def Box3 (W:World) (B:Nat) (a l c:Int):Prop:=W.heap[B]?=some (.cells #[.int .i64 a,.int .i64 l,.int .i64 c] 35 (0,0))
theorem Box3.lt {W:World}{B:Nat}{a l c:Int}(h:Box3 W B a l c):B<W.heap.size:=(Array.getElem?_eq_some_iff.1 h).1
theorem Box3.cell0 {W:World}{B:Nat}{a l c:Int}(h:Box3 W B a l c):W.cell? ⟨B,0,none⟩=some (.int .i64 a):=by simp [World.cell?,show W.heap[B]?=_ from h]
theorem Box3.cell1 {W:World}{B:Nat}{a l c:Int}(h:Box3 W B a l c):W.cell? ⟨B,1,none⟩=some (.int .i64 l):=by simp [World.cell?,show W.heap[B]?=_ from h]
theorem Box3.cell2 {W:World}{B:Nat}{a l c:Int}(h:Box3 W B a l c):W.cell? ⟨B,2,none⟩=some (.int .i64 c):=by simp [World.cell?,show W.heap[B]?=_ from h]
theorem Box3.frozen {W:World}{B:Nat}{a l c:Int}(h:Box3 W B a l c) (k:Nat):W.frozen? ⟨B,k,none⟩=false:=by simp [World.frozen?,show W.heap[B]?=_ from h]
theorem Box3.new (W:World) (a l c:Int):Box3 (W.alloc (.cells #[.int .i64 a,.int .i64 l,.int .i64 c] 35)) W.heap.size a l c:=World.alloc_heap_new W _
theorem Box3.kept {W W':World}{row:Option Nat}{B:Nat}{a l c:Int}(h:Box3 W B a l c) (hg:W.grownBy W' row) (hne:some B≠row):Box3 W' B a l c:=(hg.block B h.lt hne).trans h
theorem Box3.alloc {W:World}{B:Nat}{a l c:Int}(h:Box3 W B a l c) (o:Obj):Box3 (W.alloc o) B a l c:=h.kept (World.grownBy_alloc W o none) (by simp)
theorem Box3.below {W W':World}{B:Nat}{a l c:Int}(h:Box3 W B a l c) (hb:Below W.heap.size W W'):Box3 W' B a l c:=(hb.block B h.lt).trans h
theorem Box3.drew {W:World}{B:Nat}{a l c:Int}(h:Box3 W B a l c):Box3 W.drew B a l c:=h
theorem Box3.set0 {W:World}{B:Nat}{a l c:Int}(h:Box3 W B a l c) (v:Int):Box3 (W.setCell ⟨B,0,none⟩ (.int .i64 v)) B v l c:=by
 obtain ⟨hlt,hk⟩:=Array.getElem?_eq_some_iff.1 h
 show (W.heap.modify B _)[B]?=_
 rw [Array.getElem?_eq_getElem (by rw [Array.size_modify];exact hlt),Array.getElem_modify_self,hk]
 rfl
theorem Box3.set1 {W:World}{B:Nat}{a l c:Int}(h:Box3 W B a l c) (v:Int):Box3 (W.setCell ⟨B,1,none⟩ (.int .i64 v)) B a v c:=by
 obtain ⟨hlt,hk⟩:=Array.getElem?_eq_some_iff.1 h
 show (W.heap.modify B _)[B]?=_
 rw [Array.getElem?_eq_getElem (by rw [Array.size_modify];exact hlt),Array.getElem_modify_self,hk]
 rfl
theorem Box3.set2 {W:World}{B:Nat}{a l c:Int}(h:Box3 W B a l c) (v:Int):Box3 (W.setCell ⟨B,2,none⟩ (.int .i64 v)) B a l v:=by
 obtain ⟨hlt,hk⟩:=Array.getElem?_eq_some_iff.1 h
 show (W.heap.modify B _)[B]?=_
 rw [Array.getElem?_eq_getElem (by rw [Array.size_modify];exact hlt),Array.getElem_modify_self,hk]
 rfl
theorem grown_set (W:World) (p:Addr) (v:Value):W.grownBy (W.setCell p v) (some p.block):=
 ⟨rfl,rfl,rfl,(KeepsWalks.setCell W _ v).size,fun k _ hk=>Below.heap_setCell _ _ _ k (fun e=>hk (by rw [e]))⟩
theorem box3_kept {W W':World}{row:Option Nat}{B:Nat}{a l c:Int}(h:Box3 W B a l c) (hg:W.grownBy W' row) (hr:∀r,row=some r→∃o:Obj,W.heap[r]?=some o∧o.isCells=false):Box3 W' B a l c:=
 h.kept hg (fun e=>by
  obtain ⟨o,ho,hc⟩:=hr B e.symm
  rw [show W.heap[B]?=_ from h] at ho;cases ho;cases hc)
theorem box3_put {W:World}{B:Nat}{a l c:Int}(h:Box3 W B a l c) {D:Nat}{o o':Obj}(hK:W.heap[D]?=some o) (ho:o.isCells=false):Box3 (W.putObj D o') B a l c:=
 box3_kept h (grownBy_putObj' W D o') (fun r e=>by cases e;exact ⟨o,hK,ho⟩)
theorem count_in (s:ByteArray) (w:World) (hs:s.size≤maxLen) :
  Calls Tryz.prog 186 #[.string s] w fun e w'=>e=.returned (.int .i64 (P s).length)∧Below w.heap.size w w':=
 (count_any s w hs).mono (fun e w' h=>⟨h.1,by obtain ⟨p,rfl⟩:=h.2;exact below_iter _ _ _⟩)
def lcStep (q:Int × Int) (x:Ln):Int × Int:=if 1<x.1.1 then (wrap64 (q.1+1),wrap64 (1+(P x.1.2).length)) else (q.1,wrap64 (q.2+(P x.1.2).length))
def lcAll (l c:Int) (xs:List Ln):Int × Int:=xs.foldl lcStep (l,c)
theorem lcAll_snoc (l c:Int) (xs:List Ln) (x:Ln):lcAll l c (xs++[x])=lcStep (lcAll l c xs) x:=by unfold lcAll;rw [List.foldl_append];rfl
theorem lc_upto (s:ByteArray) (l c:Int):∀(k:Nat) (xs:List Ln),xs.map (·.1)=upto s k→0<k→lcAll l c xs=(wrap64 (l+(k-1:Nat)),wrap64 ((if k=1 then c else 1)+(P (ln s (k-1))).length))∨(k=1∧lcAll l c xs=(l,wrap64 (c+(P (ln s 0)).length)))
 |0,_,_,h=>by omega
 |k+1,xs,hx,_=>by
  rw [upto_succ] at hx
  obtain ⟨xs',y,rfl,h1,h2⟩:∃xs' y,xs=xs'++[y]∧xs'.map (·.1)=upto s k∧y.1=(((k+1:Nat):Int),ln s k):=by
   rcases List.eq_nil_or_concat xs with rfl|⟨xs',y,rfl⟩
   ·simp at hx
   ·rw [List.concat_eq_append,List.map_append] at hx
    have:=List.append_inj' hx (by simp)
    exact ⟨xs',y,by rw [List.concat_eq_append],this.1,by simpa using this.2⟩
  rw [lcAll_snoc]
  unfold lcStep
  rw [h2]
  by_cases hk:k=0
  ·subst hk
   right
   obtain rfl:xs'=[]:=by simpa [upto] using h1
   rw [if_neg (by simp)]
   exact ⟨rfl,rfl⟩
  ·left
   rw [if_pos (by show (1:Int)<((k+1:Nat):Int);omega),if_neg (by omega)]
   show (_,_)=(_,_)
   congr 1
   rcases lc_upto s l c k xs' h1 (by omega) with e|⟨rfl,e⟩
   ·rw [e]
    show wrap64 (wrap64 (l+((k-1:Nat):Int))+1)=_
    rw [wrap_add];congr 1;omega
   ·rw [e];rfl
theorem wrap_ok (x:Int) (h:-9223372036854775808≤x∧x≤9223372036854775807):wrap64 x=x:=by unfold wrap64;omega
theorem lc_all (s:ByteArray) (l c:Int) (hl:-9223372036854775808≤l∧l≤9223372036854775807) (xs:List Ln) (hx:xs.map (·.1)=upto s (LN s)):lcAll l c xs=(aLine l s,aCol c s):=by
 have hln:=ln_last s
 unfold aLine aCol
 rcases lc_upto s l c (LN s) xs hx (by unfold LN;omega) with e|⟨h1,e⟩
 ·rw [e]
  unfold LN
  rw [show cn s s.size+1-1=cn s s.size by omega,hln]
  by_cases hz:cn s s.size=0
  ·rw [if_pos (by omega),if_pos hz]
  ·rw [if_neg (by omega),if_neg hz]
 ·have hz:cn s s.size=0:=by unfold LN at h1;omega
  rw [hz] at hln
  rw [e,hz,if_pos rfl,hln]
  congr 1
  rw [wrap_ok _ (by simp;exact hl)];simp
set_option maxRecDepth 100000 in
set_option maxHeartbeats 2000000 in
theorem adv_any (a0 l0 c0:Int) (s:ByteArray) (w:World) (hs:s.size≤2147483647) (hl0:-9223372036854775808≤l0∧l0≤9223372036854775807) :
  Calls Tryz.prog 143 #[.agg #[.int .i64 a0,.int .i64 l0,.int .i64 c0],.string s] w fun e w'=>e=.returned (plV (aAt a0 s) (aLine l0 s) (aCol c0 s))∧Below w.heap.size w w':=by
 refine (callsIn_wide (n:=9)).1 ?_
 refine callsIn_of_wp_marks Tryz.func143 rfl trivial ?_ rfl
 simp only [Tryz.ntmps143,List.size_toArray,List.length_cons,List.length_nil,Nat.reduceAdd,Nat.reduceSub,Array.replicate_succ,Array.replicate_zero,List.push_toArray,List.append_toArray,List.nil_append,List.cons_append]
 gi_wp2
 refine ⟨trivial,?_⟩
 refine (callsIn_wide.2 (lines_any _ _)).mono ?_
 rintro e w1 ⟨rfl,rfl⟩
 gi_wp2
 obtain ⟨a1,ha1⟩:∃a1,wrap64 (a0+(s.size:Int))=a1:=⟨_,rfl⟩
 rw [ha1]
 have HA:Hid (aAt a0 s=a1):=ha1
 clear ha1
 obtain ⟨W0,hW0⟩:∃W0,(((w.alloc (Obj.cells #[Value.int IntKind.i64 a1,Value.int IntKind.i64 l0,Value.int IntKind.i64 c0] 35)).alloc (Obj.cells #[Value.int IntKind.i64 0,Value.int IntKind.i64 0,Value.int IntKind.i64 0] 35)).alloc (Obj.cells #[Value.string s] 9))=W0:=⟨_,rfl⟩
 have hsz:W0.heap.size=w.heap.size+1+1+1:=by rw [←hW0];simp
 have b0:Box3 W0 w.heap.size a1 l0 c0:=by rw [←hW0];exact ((Box3.new w _ _ _).alloc _).alloc _
 have b1:Box3 W0 (w.heap.size+1) 0 0 0:=by rw [←hW0];have:=(Box3.new (w.alloc (Obj.cells #[Value.int IntKind.i64 a1,Value.int IntKind.i64 l0,Value.int IntKind.i64 c0] 35)) 0 0 0).alloc (Obj.cells #[Value.string s] 9);rw [World.size_alloc] at this;exact this
 have b2:Boxed W0 (w.heap.size+1+1) 9 (.string s):=by rw [←hW0];have:=Boxed.new ((w.alloc (Obj.cells #[Value.int IntKind.i64 a1,Value.int IntKind.i64 l0,Value.int IntKind.i64 c0] 35)).alloc (Obj.cells #[Value.int IntKind.i64 0,Value.int IntKind.i64 0,Value.int IntKind.i64 0] 35)) 9 (.string s);rw [World.size_alloc,World.size_alloc] at this;exact this
 have hB0:Below w.heap.size w W0:=by rw [←hW0];exact (((Below.refl _ w).alloc (Nat.le_refl _) _).alloc (by simp) _).alloc (by simp;omega) _
 rw [hW0]
 clear hW0
 have hmx:Tryz.prog.follows .mixedOrders=true:=by kernel_rfl
 refine wpIn_rangeFunc_ownF rfl (by omega) (gf:=215) (lb:=#[.pointer (some ⟨w.heap.size+1+1,0,none⟩)]) rfl trivial (enters_of Tryz.func215 (by kernel_rfl) rfl)
  (lines_stops 8 (by omega) (w.heap.size+1+1) s hs W0 (by omega) b2.cell) (fun _ _=>trivial) (fun _ _ _ _ _ _ _ _=>trivial) (Below.refl _ _) (fun _=>rfl)
  (fun pre W=>(Box3 W w.heap.size a1 (lcAll l0 c0 pre).1 (lcAll l0 c0 pre).2∧Box3 W (w.heap.size+1) 0 0 0)∧Below w.heap.size w W)
  (fun _ _ _=>False)
  (OwnFrom.and (Own.from (fun s A B row hs hg hr=>⟨box3_kept hs.1 hg hr,box3_kept hs.2 hg hr⟩) _) (ownFrom_below (Nat.le_refl _) (by omega)))
  (fun _ _ _ _ _ hs _ _=>hs)
  ⟨⟨b0,b1⟩,hB0⟩
  (fun x=>{ tmps:=#[.agg #[.int .i64 a0,.int .i64 l0,.int .i64 c0],.string s,.pointer (some ⟨w.heap.size,0,none⟩),undef,.pointer (some ⟨w.heap.size+1,0,none⟩),.int .i64 x.1.1,.string x.1.2,.pointer (some ⟨w.heap.size,0,none⟩),.int .i64 a0,.string s,.int .i64 s.size,.int .i64 a1,.pointer (some ⟨w.heap.size,0,none⟩),.string s,.func (.func 215) #[] #[.pointer (some ⟨w.heap.size+1+1,0,none⟩)],.int .i64 x.1.1,.string x.1.2,undef,undef,undef,undef,undef,undef,undef,undef,undef,undef,undef,undef,undef,undef],defers:=[] }) ?assign ?body ?done ?stop
 case assign=>
  intro l x W K hK
  gi_wp2
  exact hK
 case body=>
  rintro l pre x W ⟨⟨k0,k1⟩,hB⟩ _
  obtain ⟨q,hq⟩:∃q,lcAll l0 c0 pre=q:=⟨_,rfl⟩
  have HQ:Hid (lcAll l0 c0 (pre++[x])=lcStep q x):=by show _=_;rw [lcAll_snoc,hq]
  rw [hq] at k0
  clear hq
  have g1:=k0.cell1
  have g2:=k0.cell2
  have f1:=k0.frozen 1
  have f2:=k0.frozen 2
  have hcount:∀w,Calls Tryz.prog 186 #[.string x.1.2] w fun e w'=>e=.returned (.int .i64 (P x.1.2).length)∧Below w.heap.size w w':=fun w=>count_in _ w x.2
  by_cases hx:1<x.1.1
  ·have HX:Hid (lcStep q x=(wrap64 (q.1+1),wrap64 (1+(P x.1.2).length))):=by show _=_;unfold lcStep;rw [if_pos hx]
   gi_wp2
   have r0:=(k0.set1 (wrap64 (q.1+1))).set2 1
   have r1:=(k1.kept (grown_set W ⟨w.heap.size,1,none⟩ (.int .i64 (wrap64 (q.1+1)))) (by simp)).kept (grown_set _ ⟨w.heap.size,2,none⟩ (.int .i64 1)) (by simp)
   have hkW:=(KeepsOthers.setCell W ⟨w.heap.size,1,none⟩ (.int .i64 (wrap64 (q.1+1)))).trans (KeepsOthers.setCell _ ⟨w.heap.size,2,none⟩ (.int .i64 1))
   have hB1:=(hB.setCell (p:=⟨w.heap.size,1,none⟩) (Nat.le_refl _) (.int .i64 (wrap64 (q.1+1)))).setCell (p:=⟨w.heap.size,2,none⟩) (Nat.le_refl _) (.int .i64 1)
   obtain ⟨Wm,hWm⟩:∃Wm,(W.setCell ⟨w.heap.size,1,none⟩ (.int .i64 (wrap64 (q.1+1)))).setCell ⟨w.heap.size,2,none⟩ (.int .i64 1)=Wm:=⟨_,rfl⟩
   rw [hWm] at r0 r1 hkW hB1 ⊢
   clear hWm g1 g2 f1 f2
   have g2:=r0.cell2
   have f2:=r0.frozen 2
   gi_region_with_o (refine ⟨trivial,?_⟩;gi_at_call 186;refine (CallsIn.inRound l (callsIn_wide.2 (hcount _))).mono ?_;rintro e w1 ⟨rfl,hb1⟩;have g3:=(r0.drew.below hb1).cell2;have f3:=(r0.drew.below hb1).frozen 2)
   all_goals gi_wp2
   all_goals (try go_bits)
   all_goals exact ⟨((hkW.trans (KeepsOthers.drew _)).trans (keeps_of_below hb1)).trans (KeepsOthers.setCell _ _ _),trivial,⟨by rw [HQ.out,HX.out];exact (r0.drew.below hb1).set2 _,(Box3.drew r1 |>.below hb1).kept (grown_set _ _ _) (by simp)⟩,(hB1.drew.trans (hb1.mono hB1.size)).setCell (p:=⟨w.heap.size,2,none⟩) (Nat.le_refl _) _⟩
  ·have HX:Hid (lcStep q x=(q.1,wrap64 (q.2+(P x.1.2).length))):=by show _=_;unfold lcStep;rw [if_neg hx]
   gi_wp2
   gi_region_with_o (refine ⟨trivial,?_⟩;gi_at_call 186;refine (CallsIn.inRound l (callsIn_wide.2 (hcount _))).mono ?_;rintro e w1 ⟨rfl,hb1⟩;have g3:=(k0.drew.below hb1).cell2;have f3:=(k0.drew.below hb1).frozen 2)
   all_goals gi_wp2
   all_goals (try go_bits)
   all_goals exact ⟨((KeepsOthers.drew _).trans (keeps_of_below hb1)).trans (KeepsOthers.setCell _ _ _),trivial,⟨by rw [HQ.out,HX.out];exact (k0.drew.below hb1).set2 _,(k1.drew.below hb1).kept (grown_set _ _ _) (by simp)⟩,(hB.drew.trans (hb1.mono hB.size)).setCell (p:=⟨w.heap.size,2,none⟩) (Nat.le_refl _) _⟩
 case done=>
  rintro D ys W hD hS ⟨⟨k0,k1⟩,hB⟩ hK
  rw [lc_all s l0 c0 hl0 ys hS] at k0
  obtain ⟨L,hL⟩:∃L,aLine l0 s=L:=⟨_,rfl⟩
  obtain ⟨C,hC⟩:∃C,aCol c0 s=C:=⟨_,rfl⟩
  rw [hL,hC] at k0
  have HL:Hid (aLine l0 s=L):=hL
  have HC:Hid (aCol c0 s=C):=hC
  clear hL hC
  have g0:=k0.cell0
  have g1:=k0.cell1
  have g2:=k0.cell2
  have e0:=k1.cell0
  have e1:=k1.cell1
  have e2:=k1.cell2
  have f0:=k1.frozen 0
  have f1:=k1.frozen 1
  have f2:=k1.frozen 2
  gi_wp2
  have hK':=(((KeepsOthers.setCell W ⟨w.heap.size+1,0,none⟩ (.int .i64 a1)).trans (KeepsOthers.setCell _ ⟨w.heap.size+1,1,none⟩ (.int .i64 L))).trans (KeepsOthers.setCell _ ⟨w.heap.size+1,2,none⟩ (.int .i64 C))).same D _ hK rfl
  have j1:=((k1.set0 a1).set1 L).set2 C
  have hB3:=((hB.setCell (p:=⟨w.heap.size+1,0,none⟩) (by simp) (.int .i64 a1)).setCell (p:=⟨w.heap.size+1,1,none⟩) (by simp) (.int .i64 L)).setCell (p:=⟨w.heap.size+1,2,none⟩) (by simp) (.int .i64 C)
  have m:=box3_put (o':=.deferred none) j1 hK' rfl
  have m0:=m.cell0
  have m1:=m.cell1
  have m2:=m.cell2
  refine ⟨by simp,.inl ⟨_,_,rfl,run_takeDeferred hK',?_⟩⟩
  refine ⟨.agg #[.int .i64 a1,.int .i64 L,.int .i64 C],?_,by rw [HA.out,HL.out,HC.out];rfl,hB3.trans (belowK_b (w:=w) (Nat.le_refl _) _ D _ _ (by omega) hK' rfl rfl)⟩
  simp [results,Tryz.f143,go_sem,m0,m1,m2]
 case stop=>
  rintro D c pre W _ _ h _
  exact h.elim
set_option maxHeartbeats 1000000 in
theorem start_any (w:World) :
  Calls Tryz.prog 49 #[] w fun e w'=>e=.returned (.agg #[.int .i64 0,.int .i64 1,.int .i64 1])∧Below w.heap.size w w':=by
 go_enter Tryz.func49,Tryz.ntmps49
 go_wp2
 have hb0:=Box3.new w 0 1 1
 have g0:=hb0.cell0
 have g1:=hb0.cell1
 have g2:=hb0.cell2
 refine bodyPost_ret (v:=.agg #[.int .i64 0,.int .i64 1,.int .i64 1]) (by simp [results,Tryz.f49,go_sem,g0,g1,g2]) rfl ?_
 exact ⟨rfl,(Below.refl _ _).alloc (Nat.le_refl _) _⟩
theorem adv_lit (a0 l0 c0:Int) (s:ByteArray) (w:World) (hs:s.size≤2147483647) (hl0:-9223372036854775808≤l0∧l0≤9223372036854775807) :
  Calls Tryz.prog 143 #[.agg #[.int .i64 a0,.int .i64 l0,.int .i64 c0],.string s] w fun e w'=>e=.returned (.agg #[.int .i64 (aAt a0 s),.int .i64 (aLine l0 s),.int .i64 (aCol c0 s)])∧Below w.heap.size w w':=
 adv_any a0 l0 c0 s w hs hl0
end Go.Proofs.YtpdlohfdjiaegaaGreatDoor.Lx
