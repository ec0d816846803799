import Derived.RangeFuncNested
import Derived.RangeFuncBound
import Derived.RangeFuncCalls
import Derived.RangeFuncLeaves
import Derived.Shelf.Abstract
import Derived.Shelf.RegionOpen
import Derived.OwnWalkIn
import Derived.TacticsInMore
import Derived.LoopNIn
import Derived.LoopIn
import Derived.Deep.RegionWith
import Derived.Deep.RegionHeld3
import Derived.WalkMore
import Derived.ScopeJumps
import Derived.Test.YtpdlohfdjiaegaaGreatDoorM04
set_option linter.unusedVariables false
set_option linter.unusedSimpArgs false
namespace Go.Proofs.YtpdlohfdjiaegaaGreatDoor.Lx
open Go.RowKit Go.Shelf
attribute [local go_sem] Oper.semAt_some
def LN (s:ByteArray):Nat:=cn s s.size+1
def upto (s:ByteArray) (k:Nat):List (Int × ByteArray):=(List.range k).map (fun i=>(((i+1:Nat):Int),ln s i))
theorem upto_succ (s:ByteArray) (k:Nat):upto s (k+1)=upto s k++[(((k+1:Nat):Int),ln s k)]:=by
 unfold upto;rw [List.range_succ,List.map_append];rfl
theorem upto_len (s:ByteArray) (k:Nat):(upto s k).length=k:=by unfold upto;simp
theorem nl_tail (s:ByteArray) (a:Nat) (ha:a≤s.size):nl (s.extract a s.size) 0=nl s a-a:=by
 have z:=size_ext s a s.size (Nat.le_refl _)
 obtain ⟨h1,h2,h3,h4⟩:=nl_facts s a ha
 refine nl_eq _ 0 _ (Nat.zero_le _) (by omega) (fun k _ hk=>?_) ?_
 ·rw [by8_ext' s a s.size k (by omega)];exact h3 _ (by omega) (by omega)
 ·by_cases e:nl s a=s.size
  ·left;omega
  ·right;rw [by8_ext' s a s.size _ (by omega),show a+(nl s a-a)=nl s a by omega];exact h4 (by omega)
theorem cut_ln (s:ByteArray) (k:Nat) (h:k<LN s):cutL (s.extract (bg s k) s.size)=ln s k∧cutB (s.extract (bg s k) s.size)=decide (k+1<LN s) ∧
  (k+1<LN s→cutR (s.extract (bg s k) s.size)=s.extract (bg s (k+1)) s.size):=by
 unfold LN at h ⊢
 have hb:=bg_facts s k (by omega)
 obtain ⟨h1,h2,h3⟩:=nl_bg s k (by omega)
 have z:=size_ext s (bg s k) s.size (Nat.le_refl _)
 have e:=nl_tail s (bg s k) hb.1
 refine ⟨?_,?_,fun hk=>?_⟩
 ·unfold cutL;rw [e,ext_ext s (bg s k) s.size 0 _ (Nat.le_refl _) (by omega) (Nat.zero_le _),Nat.add_zero,show bg s k+(nl s (bg s k)-bg s k)=nl s (bg s k) by omega];rfl
 ·unfold cutB;rw [e,z]
  by_cases hc:nl s (bg s k)<s.size
  ·have:=h3.1 hc
   rw [decide_eq_true (by omega),decide_eq_true (by omega)]
  ·have:¬k<cn s s.size:=fun hh=>hc (h3.2 hh)
   rw [decide_eq_false (by omega),decide_eq_false (by omega)]
 ·have hc:=h3.2 (by omega)
  unfold cutR;rw [e,z,if_pos (by omega),ext_ext s (bg s k) s.size _ _ (Nat.le_refl _) (by omega) (by omega)]
  show s.extract _ _=s.extract (nl s (bg s k)+1) _
  congr 1 <;> omega
abbrev Ln:={ x:Int × ByteArray // x.2.size≤maxLen }
abbrev lencs (x:Ln):Array Value:=#[.int .i64 x.1.1,.string x.1.2]
theorem grown_of_below {w w':World}(h:Below w.heap.size w w'):w.grownBy w' none:=⟨h.os,h.tape,h.output,h.size,fun k hk _=>h.block k hk⟩
theorem keeps_of_below {w w':World}(h:Below w.heap.size w w'):KeepsOthers w w':=KeepsOthers.of_grownBy (grown_of_below h) (fun _ _ e=>by cases e)
set_option maxRecDepth 100000 in
set_option maxHeartbeats 2000000 in
theorem lines_stops (n:Nat) (hn:1≤n) (Bn:Nat) (s:ByteArray) (hs:s.size≤2147483647) (w:World) (hB:Bn<w.heap.size) (hc:w.cell? ⟨Bn,0,none⟩=some (.string s)) :
  SeqStopsK Fence.wide n Tryz.prog 215 #[.pointer (some ⟨Bn,0,none⟩)] lencs (fun _ _=>True) (fun xs=>xs.map (·.1)=upto s (LN s)) (fun pre=>∃k,k≤LN s∧pre.map (·.1)=upto s k) (LN s) w:=fun l J Jx W hW hJ hJx hY h0=>by
 have hL:LN s≤2147483648:=by have:=cn_le s s.size;unfold LN;omega
 have hcW:W.cell? ⟨Bn,0,none⟩=some (.string s):=(hW.cell (p:=⟨Bn,0,none⟩) hB).trans hc
 refine callsIn_of_wp Tryz.func215 rfl trivial ?_ rfl
 simp only [Tryz.ntmps215,List.size_toArray,List.length_cons,List.length_nil,Nat.reduceAdd,Nat.reduceSub,Array.replicate_succ,Array.replicate_zero,List.push_toArray,List.append_toArray,List.nil_append,List.cons_append]
 gi_wp2
 gi_loopw [3,4,5] (fun r b m wr=>∃(k:Nat) (pre:List Ln) (q:ByteArray) (z:Int),r=.string q∧b=.bool (decide (k<LN s))∧m=.int .i64 z∧Hid (z=((k+1:Nat):Int))∧Hid (k≤LN s)∧Hid (pre.map (·.1)=upto s k)∧Hid (k<LN s→q=s.extract (bg s k) s.size)∧J pre wr)
  (fun _ _ m _=>LN s+1-(RowKit.intOf m).toNat)
 case atStart=>
  refine ⟨0,[],s,1,rfl,by rw [decide_eq_true (by unfold LN;omega)],rfl,rfl,Nat.zero_le _,rfl,?_,h0⟩
  intro _;rw [show bg s 0=0 from rfl,extract_all]
 case round=>
  obtain ⟨k,pre,q,z,rfl,rfl,rfl,HZ,HK,HP,HQ,hJs⟩:=hrel
  by_cases hk:k<LN s
  ·obtain ⟨e1,e2,e3⟩:=cut_ln s k hk
   have hq:=HQ.out hk
   have hqs:q.size≤maxLen:=by rw [hq,size_ext _ _ _ (Nat.le_refl _)];unfold maxLen;omega
   have hls:(ln s k).size≤maxLen:=by have:=ln_size s k (by unfold LN at hk;omega);unfold maxLen;omega
   rw [←hq] at e1 e2 e3
   obtain ⟨b,hb⟩:∃b,decide (k<LN s)=b:=⟨_,rfl⟩
   have hbt:b=true:=by rw [←hb];exact decide_eq_true hk
   rw [hb,hbt]
   have HE1:Hid (cutL q=ln s k):=e1
   have HE2:Hid (cutB q=decide (k+1<LN s)):=e2
   have HE3:Hid (k+1<LN s→cutR q=s.extract (bg s (k+1)) s.size):=e3
   have HKL:Hid (k<LN s):=hk
   have hz1:0≤z:=by have:=HZ.out;omega
   have hz2:z≤2147483648:=by have:=HZ.out;omega
   have HLEN:Hid (pre.length<LN s):=by
    show _<_
    have:=congrArg List.length HP.out
    rw [upto_len,List.length_map] at this;omega
   clear e1 e2 e3 hq hb hbt HQ hk
   obtain ⟨L,hLL⟩:∃L,ln s k=L:=⟨_,rfl⟩
   obtain ⟨CL,hCL⟩:∃L,cutL q=L:=⟨_,rfl⟩
   obtain ⟨CR,hCR⟩:∃L,cutR q=L:=⟨_,rfl⟩
   obtain ⟨CB,hCB⟩:∃L,cutB q=L:=⟨_,rfl⟩
   have hcut:∀w,Calls Tryz.prog 216 #[.string q,.string ⟨#[10]⟩] w fun e w'=>e=.returned (.tuple #[.string CL,.string CR,.bool CB])∧Below w.heap.size w w':=by
    intro w;rw [←hCL,←hCR,←hCB];exact cut_any q w hqs
   rw [hCL,hLL] at HE1
   rw [hCB] at HE2
   rw [hCR] at HE3
   rw [hLL] at hls
   obtain rfl:=HE1.out
   have HLL:Hid (ln s k=CL):=hLL
   clear hCL hCR hCB hLL
   gi_wp2
   refine ⟨trivial,?_⟩
   refine (callsIn_wide.2 (hcut _)).mono ?_
   rintro e w1 ⟨rfl,hb1⟩
   have hJ1:=hJ pre _ w1 none hJs (grown_of_below hb1) (fun r e=>by cases e)
   obtain ⟨fn,tmps,assign,body,hy,hR⟩:=hY pre ⟨(z,CL),hls⟩ w1 hJ1 HLEN.out
   dsimp only [lencs] at hy
   gi_wp2
   refine hR.mono ?_
   rintro e W3 (⟨rfl,hJ3,_⟩|⟨rfl,hJx3⟩)
   ·gi_wp2
    go_roundw
    case rel=>exact ⟨k+1,pre++[⟨(z,CL),hls⟩],CR,z+1,rfl,by rw [HE2.out],by go_num,by show _=_;rw [HZ.out];omega,HKL.out,by show _=_;rw [List.map_append,HP.out,upto_succ,HLL.out,HZ.out];rfl,HE3.out,hJ3⟩
    case measure=>simp [RowKit.intOf];have:=HZ.out;have:=HKL.out;omega
   ·gi_wp2
    refine bodyPost_ret (results_none rfl _ _ _) rfl ?_
    exact ⟨⟨_,rfl⟩,.inr ⟨pre++[⟨(z,CL),hls⟩],⟨k+1,HKL.out,by rw [List.map_append,HP.out,upto_succ,HLL.out,HZ.out];rfl⟩,hJx3⟩⟩
  ·have hbf:decide (k<LN s)=false:=decide_eq_false hk
   rw [hbf]
   have HE:Hid (k=LN s):=by show _=_;have:=HK.out;omega
   clear hbf hk HQ
   gi_wp2
   go_end0
   exact ⟨⟨_,rfl⟩,.inl ⟨pre,by rw [HP.out,HE.out],hJs⟩⟩
attribute [local go_sem] Oper.semAt_some
attribute [local go_sem] Oper.semAt_some
def plV (a l c:Int):Value:=.agg #[.int .i64 a,.int .i64 l,.int .i64 c]
def Box3 (W:World) (B:Nat) (a l c:Int):Prop:=W.heap[B]?=some (.cells #[.int .i64 a,.int .i64 l,.int .i64 c] 35 (0,0))
theorem Box3.lt {W:World}{B:Nat}{a l c:Int}(h:Box3 W B a l c):B<W.heap.size:=(Array.getElem?_eq_some_iff.1 h).1
theorem Box3.cell0 {W:World}{B:Nat}{a l c:Int}(h:Box3 W B a l c):W.cell? ⟨B,0,none⟩=some (.int .i64 a):=by simp [World.cell?,show W.heap[B]?=_ from h]
theorem Box3.cell1 {W:World}{B:Nat}{a l c:Int}(h:Box3 W B a l c):W.cell? ⟨B,1,none⟩=some (.int .i64 l):=by simp [World.cell?,show W.heap[B]?=_ from h]
theorem Box3.cell2 {W:World}{B:Nat}{a l c:Int}(h:Box3 W B a l c):W.cell? ⟨B,2,none⟩=some (.int .i64 c):=by simp [World.cell?,show W.heap[B]?=_ from h]
theorem Box3.frozen {W:World}{B:Nat}{a l c:Int}(h:Box3 W B a l c) (k:Nat):W.frozen? ⟨B,k,none⟩=false:=by simp [World.frozen?,show W.heap[B]?=_ from h]
theorem Box3.new (W:World) (a l c:Int):Box3 (W.alloc (.cells #[.int .i64 a,.int .i64 l,.int .i64 c] 35)) W.heap.size a l c:=World.alloc_heap_new W _
theorem Box3.kept {W W':World}{row:Option Nat}{B:Nat}{a l c:Int}(h:Box3 W B a l c) (hg:W.grownBy W' row) (hne:some B≠row):Box3 W' B a l c:=(hg.block B h.lt hne).trans h
theorem Box3.alloc {W:World}{B:Nat}{a l c:Int}(h:Box3 W B a l c) (o:Obj):Box3 (W.alloc o) B a l c:=h.kept (World.grownBy_alloc W o none) (by simp)
theorem Box3.below {W W':World}{B:Nat}{a l c:Int}(h:Box3 W B a l c) (hb:Below W.heap.size W W'):Box3 W' B a l c:=(hb.block B h.lt).trans h
theorem Box3.drew {W:World}{B:Nat}{a l c:Int}(h:Box3 W B a l c):Box3 W.drew B a l c:=h
theorem Box3.set0 {W:World}{B:Nat}{a l c:Int}(h:Box3 W B a l c) (v:Int):Box3 (W.setCell ⟨B,0,none⟩ (.int .i64 v)) B v l c:=by
 obtain ⟨hlt,hk⟩:=Array.getElem?_eq_some_iff.1 h
 show (W.heap.modify B _)[B]?=_
 rw [Array.getElem?_eq_getElem (by rw [Array.size_modify];exact hlt),Array.getElem_modify_self,hk]
 rfl
theorem Box3.set1 {W:World}{B:Nat}{a l c:Int}(h:Box3 W B a l c) (v:Int):Box3 (W.setCell ⟨B,1,none⟩ (.int .i64 v)) B a v c:=by
 obtain ⟨hlt,hk⟩:=Array.getElem?_eq_some_iff.1 h
 show (W.heap.modify B _)[B]?=_
 rw [Array.getElem?_eq_getElem (by rw [Array.size_modify];exact hlt),Array.getElem_modify_self,hk]
 rfl
theorem Box3.set2 {W:World}{B:Nat}{a l c:Int}(h:Box3 W B a l c) (v:Int):Box3 (W.setCell ⟨B,2,none⟩ (.int .i64 v)) B a l v:=by
 obtain ⟨hlt,hk⟩:=Array.getElem?_eq_some_iff.1 h
 show (W.heap.modify B _)[B]?=_
 rw [Array.getElem?_eq_getElem (by rw [Array.size_modify];exact hlt),Array.getElem_modify_self,hk]
 rfl
theorem grown_set (W:World) (p:Addr) (v:Value):W.grownBy (W.setCell p v) (some p.block):=
 ⟨rfl,rfl,rfl,(KeepsWalks.setCell W _ v).size,fun k _ hk=>Below.heap_setCell _ _ _ k (fun e=>hk (by rw [e]))⟩
theorem box3_kept {W W':World}{row:Option Nat}{B:Nat}{a l c:Int}(h:Box3 W B a l c) (hg:W.grownBy W' row) (hr:∀r,row=some r→∃o:Obj,W.heap[r]?=some o∧o.isCells=false):Box3 W' B a l c:=
 h.kept hg (fun e=>by
  obtain ⟨o,ho,hc⟩:=hr B e.symm
  rw [show W.heap[B]?=_ from h] at ho;cases ho;cases hc)
theorem box3_put {W:World}{B:Nat}{a l c:Int}(h:Box3 W B a l c) {D:Nat}{o o':Obj}(hK:W.heap[D]?=some o) (ho:o.isCells=false):Box3 (W.putObj D o') B a l c:=
 box3_kept h (grownBy_putObj' W D o') (fun r e=>by cases e;exact ⟨o,hK,ho⟩)
theorem count_in (s:ByteArray) (w:World) (hs:s.size≤maxLen) :
  Calls Tryz.prog 186 #[.string s] w fun e w'=>e=.returned (.int .i64 (P s).length)∧Below w.heap.size w w':=
 (count_any s w hs).mono (fun e w' h=>⟨h.1,by obtain ⟨p,rfl⟩:=h.2;exact below_iter _ _ _⟩)
def lcStep (q:Int × Int) (x:Ln):Int × Int:=if 1<x.1.1 then (wrap64 (q.1+1),wrap64 (1+(P x.1.2).length)) else (q.1,wrap64 (q.2+(P x.1.2).length))
def lcAll (l c:Int) (xs:List Ln):Int × Int:=xs.foldl lcStep (l,c)
theorem lcAll_snoc (l c:Int) (xs:List Ln) (x:Ln):lcAll l c (xs++[x])=lcStep (lcAll l c xs) x:=by unfold lcAll;rw [List.foldl_append];rfl
theorem lc_upto (s:ByteArray) (l c:Int):∀(k:Nat) (xs:List Ln),xs.map (·.1)=upto s k→0<k→lcAll l c xs=(wrap64 (l+(k-1:Nat)),wrap64 ((if k=1 then c else 1)+(P (ln s (k-1))).length))∨(k=1∧lcAll l c xs=(l,wrap64 (c+(P (ln s 0)).length)))
 |0,_,_,h=>by omega
 |k+1,xs,hx,_=>by
  rw [upto_succ] at hx
  obtain ⟨xs',y,rfl,h1,h2⟩:∃xs' y,xs=xs'++[y]∧xs'.map (·.1)=upto s k∧y.1=(((k+1:Nat):Int),ln s k):=by
   rcases List.eq_nil_or_concat xs with rfl|⟨xs',y,rfl⟩
   ·simp at hx
   ·rw [List.concat_eq_append,List.map_append] at hx
    have:=List.append_inj' hx (by simp)
    exact ⟨xs',y,by rw [List.concat_eq_append],this.1,by simpa using this.2⟩
  rw [lcAll_snoc]
  unfold lcStep
  rw [h2]
  by_cases hk:k=0
  ·subst hk
   right
   obtain rfl:xs'=[]:=by simpa [upto] using h1
   rw [if_neg (by simp)]
   exact ⟨rfl,rfl⟩
  ·left
   rw [if_pos (by show (1:Int)<((k+1:Nat):Int);omega),if_neg (by omega)]
   show (_,_)=(_,_)
   congr 1
   rcases lc_upto s l c k xs' h1 (by omega) with e|⟨rfl,e⟩
   ·rw [e]
    show wrap64 (wrap64 (l+((k-1:Nat):Int))+1)=_
    rw [wrap_add];congr 1;omega
   ·rw [e];rfl
theorem wrap_ok (x:Int) (h:-9223372036854775808≤x∧x≤9223372036854775807):wrap64 x=x:=by unfold wrap64;omega
theorem lc_all (s:ByteArray) (l c:Int) (hl:-9223372036854775808≤l∧l≤9223372036854775807) (xs:List Ln) (hx:xs.map (·.1)=upto s (LN s)):lcAll l c xs=(aLine l s,aCol c s):=by
 have hln:=ln_last s
 unfold aLine aCol
 rcases lc_upto s l c (LN s) xs hx (by unfold LN;omega) with e|⟨h1,e⟩
 ·rw [e]
  unfold LN
  rw [show cn s s.size+1-1=cn s s.size by omega,hln]
  by_cases hz:cn s s.size=0
  ·rw [if_pos (by omega),if_pos hz]
  ·rw [if_neg (by omega),if_neg hz]
 ·have hz:cn s s.size=0:=by unfold LN at h1;omega
  rw [hz] at hln
  rw [e,hz,if_pos rfl,hln]
  congr 1
  rw [wrap_ok _ (by simp;exact hl)];simp
set_option maxRecDepth 100000 in
set_option maxHeartbeats 2000000 in
theorem adv_any (a0 l0 c0:Int) (s:ByteArray) (w:World) (hs:s.size≤2147483647) (hl0:-9223372036854775808≤l0∧l0≤9223372036854775807) :
  Calls Tryz.prog 143 #[.agg #[.int .i64 a0,.int .i64 l0,.int .i64 c0],.string s] w fun e w'=>e=.returned (plV (aAt a0 s) (aLine l0 s) (aCol c0 s))∧Below w.heap.size w w':=by
 refine (callsIn_wide (n:=9)).1 ?_
 refine callsIn_of_wp_marks Tryz.func143 rfl trivial ?_ rfl
 simp only [Tryz.ntmps143,List.size_toArray,List.length_cons,List.length_nil,Nat.reduceAdd,Nat.reduceSub,Array.replicate_succ,Array.replicate_zero,List.push_toArray,List.append_toArray,List.nil_append,List.cons_append]
 gi_wp2
 refine ⟨trivial,?_⟩
 refine (callsIn_wide.2 (lines_any _ _)).mono ?_
 rintro e w1 ⟨rfl,rfl⟩
 gi_wp2
 obtain ⟨a1,ha1⟩:∃a1,wrap64 (a0+(s.size:Int))=a1:=⟨_,rfl⟩
 rw [ha1]
 have HA:Hid (aAt a0 s=a1):=ha1
 clear ha1
 obtain ⟨W0,hW0⟩:∃W0,(((w.alloc (Obj.cells #[Value.int IntKind.i64 a1,Value.int IntKind.i64 l0,Value.int IntKind.i64 c0] 35)).alloc (Obj.cells #[Value.int IntKind.i64 0,Value.int IntKind.i64 0,Value.int IntKind.i64 0] 35)).alloc (Obj.cells #[Value.string s] 9))=W0:=⟨_,rfl⟩
 have hsz:W0.heap.size=w.heap.size+1+1+1:=by rw [←hW0];simp
 have b0:Box3 W0 w.heap.size a1 l0 c0:=by rw [←hW0];exact ((Box3.new w _ _ _).alloc _).alloc _
 have b1:Box3 W0 (w.heap.size+1) 0 0 0:=by rw [←hW0];have:=(Box3.new (w.alloc (Obj.cells #[Value.int IntKind.i64 a1,Value.int IntKind.i64 l0,Value.int IntKind.i64 c0] 35)) 0 0 0).alloc (Obj.cells #[Value.string s] 9);rw [World.size_alloc] at this;exact this
 have b2:Boxed W0 (w.heap.size+1+1) 9 (.string s):=by rw [←hW0];have:=Boxed.new ((w.alloc (Obj.cells #[Value.int IntKind.i64 a1,Value.int IntKind.i64 l0,Value.int IntKind.i64 c0] 35)).alloc (Obj.cells #[Value.int IntKind.i64 0,Value.int IntKind.i64 0,Value.int IntKind.i64 0] 35)) 9 (.string s);rw [World.size_alloc,World.size_alloc] at this;exact this
 have hB0:Below w.heap.size w W0:=by rw [←hW0];exact (((Below.refl _ w).alloc (Nat.le_refl _) _).alloc (by simp) _).alloc (by simp;omega) _
 rw [hW0]
 clear hW0
 have hmx:Tryz.prog.follows .mixedOrders=true:=by kernel_rfl
 refine wpIn_rangeFunc_ownF rfl (by omega) (gf:=215) (lb:=#[.pointer (some ⟨w.heap.size+1+1,0,none⟩)]) rfl trivial (enters_of Tryz.func215 (by kernel_rfl) rfl)
  (lines_stops 8 (by omega) (w.heap.size+1+1) s hs W0 (by omega) b2.cell) (fun _ _=>trivial) (fun _ _ _ _ _ _ _ _=>trivial) (Below.refl _ _) (fun _=>rfl)
  (fun pre W=>(Box3 W w.heap.size a1 (lcAll l0 c0 pre).1 (lcAll l0 c0 pre).2∧Box3 W (w.heap.size+1) 0 0 0)∧Below w.heap.size w W)
  (fun _ _ _=>False)
  (OwnFrom.and (Own.from (fun s A B row hs hg hr=>⟨box3_kept hs.1 hg hr,box3_kept hs.2 hg hr⟩) _) (ownFrom_below (Nat.le_refl _) (by omega)))
  (fun _ _ _ _ _ hs _ _=>hs)
  ⟨⟨b0,b1⟩,hB0⟩
  (fun x=>{ tmps:=#[.agg #[.int .i64 a0,.int .i64 l0,.int .i64 c0],.string s,.pointer (some ⟨w.heap.size,0,none⟩),undef,.pointer (some ⟨w.heap.size+1,0,none⟩),.int .i64 x.1.1,.string x.1.2,.pointer (some ⟨w.heap.size,0,none⟩),.int .i64 a0,.string s,.int .i64 s.size,.int .i64 a1,.pointer (some ⟨w.heap.size,0,none⟩),.string s,.func (.func 215) #[] #[.pointer (some ⟨w.heap.size+1+1,0,none⟩)],.int .i64 x.1.1,.string x.1.2,undef,undef,undef,undef,undef,undef,undef,undef,undef,undef,undef,undef,undef,undef],defers:=[] }) ?assign ?body ?done ?stop
 case assign=>
  intro l x W K hK
  gi_wp2
  exact hK
 case body=>
  rintro l pre x W ⟨⟨k0,k1⟩,hB⟩ _
  obtain ⟨q,hq⟩:∃q,lcAll l0 c0 pre=q:=⟨_,rfl⟩
  have HQ:Hid (lcAll l0 c0 (pre++[x])=lcStep q x):=by show _=_;rw [lcAll_snoc,hq]
  rw [hq] at k0
  clear hq
  have g1:=k0.cell1
  have g2:=k0.cell2
  have f1:=k0.frozen 1
  have f2:=k0.frozen 2
  have hcount:∀w,Calls Tryz.prog 186 #[.string x.1.2] w fun e w'=>e=.returned (.int .i64 (P x.1.2).length)∧Below w.heap.size w w':=fun w=>count_in _ w x.2
  by_cases hx:1<x.1.1
  ·have HX:Hid (lcStep q x=(wrap64 (q.1+1),wrap64 (1+(P x.1.2).length))):=by show _=_;unfold lcStep;rw [if_pos hx]
   gi_wp2
   have r0:=(k0.set1 (wrap64 (q.1+1))).set2 1
   have r1:=(k1.kept (grown_set W ⟨w.heap.size,1,none⟩ (.int .i64 (wrap64 (q.1+1)))) (by simp)).kept (grown_set _ ⟨w.heap.size,2,none⟩ (.int .i64 1)) (by simp)
   have hkW:=(KeepsOthers.setCell W ⟨w.heap.size,1,none⟩ (.int .i64 (wrap64 (q.1+1)))).trans (KeepsOthers.setCell _ ⟨w.heap.size,2,none⟩ (.int .i64 1))
   have hB1:=(hB.setCell (p:=⟨w.heap.size,1,none⟩) (Nat.le_refl _) (.int .i64 (wrap64 (q.1+1)))).setCell (p:=⟨w.heap.size,2,none⟩) (Nat.le_refl _) (.int .i64 1)
   obtain ⟨Wm,hWm⟩:∃Wm,(W.setCell ⟨w.heap.size,1,none⟩ (.int .i64 (wrap64 (q.1+1)))).setCell ⟨w.heap.size,2,none⟩ (.int .i64 1)=Wm:=⟨_,rfl⟩
   rw [hWm] at r0 r1 hkW hB1 ⊢
   clear hWm g1 g2 f1 f2
   have g2:=r0.cell2
   have f2:=r0.frozen 2
   gi_region_with_o (refine ⟨trivial,?_⟩;gi_at_call 186;refine (CallsIn.inRound l (callsIn_wide.2 (hcount _))).mono ?_;rintro e w1 ⟨rfl,hb1⟩;have g3:=(r0.drew.below hb1).cell2;have f3:=(r0.drew.below hb1).frozen 2)
   all_goals gi_wp2
   all_goals (try go_bits)
   all_goals exact ⟨((hkW.trans (KeepsOthers.drew _)).trans (keeps_of_below hb1)).trans (KeepsOthers.setCell _ _ _),trivial,⟨by rw [HQ.out,HX.out];exact (r0.drew.below hb1).set2 _,(Box3.drew r1 |>.below hb1).kept (grown_set _ _ _) (by simp)⟩,(hB1.drew.trans (hb1.mono hB1.size)).setCell (p:=⟨w.heap.size,2,none⟩) (Nat.le_refl _) _⟩
  ·have HX:Hid (lcStep q x=(q.1,wrap64 (q.2+(P x.1.2).length))):=by show _=_;unfold lcStep;rw [if_neg hx]
   gi_wp2
   gi_region_with_o (refine ⟨trivial,?_⟩;gi_at_call 186;refine (CallsIn.inRound l (callsIn_wide.2 (hcount _))).mono ?_;rintro e w1 ⟨rfl,hb1⟩;have g3:=(k0.drew.below hb1).cell2;have f3:=(k0.drew.below hb1).frozen 2)
   all_goals gi_wp2
   all_goals (try go_bits)
   all_goals exact ⟨((KeepsOthers.drew _).trans (keeps_of_below hb1)).trans (KeepsOthers.setCell _ _ _),trivial,⟨by rw [HQ.out,HX.out];exact (k0.drew.below hb1).set2 _,(k1.drew.below hb1).kept (grown_set _ _ _) (by simp)⟩,(hB.drew.trans (hb1.mono hB.size)).setCell (p:=⟨w.heap.size,2,none⟩) (Nat.le_refl _) _⟩
 case done=>
  rintro D ys W hD hS ⟨⟨k0,k1⟩,hB⟩ hK
  rw [lc_all s l0 c0 hl0 ys hS] at k0
  obtain ⟨L,hL⟩:∃L,aLine l0 s=L:=⟨_,rfl⟩
  obtain ⟨C,hC⟩:∃C,aCol c0 s=C:=⟨_,rfl⟩
  rw [hL,hC] at k0
  have HL:Hid (aLine l0 s=L):=hL
  have HC:Hid (aCol c0 s=C):=hC
  clear hL hC
  have g0:=k0.cell0
  have g1:=k0.cell1
  have g2:=k0.cell2
  have e0:=k1.cell0
  have e1:=k1.cell1
  have e2:=k1.cell2
  have f0:=k1.frozen 0
  have f1:=k1.frozen 1
  have f2:=k1.frozen 2
  gi_wp2
  have hK':=(((KeepsOthers.setCell W ⟨w.heap.size+1,0,none⟩ (.int .i64 a1)).trans (KeepsOthers.setCell _ ⟨w.heap.size+1,1,none⟩ (.int .i64 L))).trans (KeepsOthers.setCell _ ⟨w.heap.size+1,2,none⟩ (.int .i64 C))).same D _ hK rfl
  have j1:=((k1.set0 a1).set1 L).set2 C
  have hB3:=((hB.setCell (p:=⟨w.heap.size+1,0,none⟩) (by simp) (.int .i64 a1)).setCell (p:=⟨w.heap.size+1,1,none⟩) (by simp) (.int .i64 L)).setCell (p:=⟨w.heap.size+1,2,none⟩) (by simp) (.int .i64 C)
  have m:=box3_put (o':=.deferred none) j1 hK' rfl
  have m0:=m.cell0
  have m1:=m.cell1
  have m2:=m.cell2
  refine ⟨by simp,.inl ⟨_,_,rfl,run_takeDeferred hK',?_⟩⟩
  refine ⟨.agg #[.int .i64 a1,.int .i64 L,.int .i64 C],?_,by rw [HA.out,HL.out,HC.out];rfl,hB3.trans (belowK_b (w:=w) (Nat.le_refl _) _ D _ _ (by omega) hK' rfl rfl)⟩
  simp [results,Tryz.f143,go_sem,m0,m1,m2]
 case stop=>
  rintro D c pre W _ _ h _
  exact h.elim
set_option maxHeartbeats 1000000 in
theorem start_any (w:World) :
  Calls Tryz.prog 49 #[] w fun e w'=>e=.returned (.agg #[.int .i64 0,.int .i64 1,.int .i64 1])∧Below w.heap.size w w':=by
 go_enter Tryz.func49,Tryz.ntmps49
 go_wp2
 have hb0:=Box3.new w 0 1 1
 have g0:=hb0.cell0
 have g1:=hb0.cell1
 have g2:=hb0.cell2
 refine bodyPost_ret (v:=.agg #[.int .i64 0,.int .i64 1,.int .i64 1]) (by simp [results,Tryz.f49,go_sem,g0,g1,g2]) rfl ?_
 exact ⟨rfl,(Below.refl _ _).alloc (Nat.le_refl _) _⟩
theorem adv_lit (a0 l0 c0:Int) (s:ByteArray) (w:World) (hs:s.size≤2147483647) (hl0:-9223372036854775808≤l0∧l0≤9223372036854775807) :
  Calls Tryz.prog 143 #[.agg #[.int .i64 a0,.int .i64 l0,.int .i64 c0],.string s] w fun e w'=>e=.returned (.agg #[.int .i64 (aAt a0 s),.int .i64 (aLine l0 s),.int .i64 (aCol c0 s)])∧Below w.heap.size w w':=
 adv_any a0 l0 c0 s w hs hl0
end Go.Proofs.YtpdlohfdjiaegaaGreatDoor.Lx
namespace Go.Proofs.YtpdlohfdjiaegaaGreatDoor.Lx
open Go.RowKit
def rpt (s:ByteArray) (a:Nat):Int:=if a<s.size then (dp s a:Int) else -1
def rsz (s:ByteArray) (a:Nat):Nat:=if a<s.size then dw s a else 0
theorem rpt_in {s:ByteArray}{a:Nat}(h:a<s.size):rpt s a=dp s a:=by unfold rpt;rw [if_pos h]
theorem rpt_out {s:ByteArray}{a:Nat}(h:s.size≤a):rpt s a=-1:=by unfold rpt;rw [if_neg (by omega)]
theorem rsz_in {s:ByteArray}{a:Nat}(h:a<s.size):rsz s a=dw s a:=by unfold rsz;rw [if_pos h]
theorem rsz_out {s:ByteArray}{a:Nat}(h:s.size≤a):rsz s a=0:=by unfold rsz;rw [if_neg (by omega)]
theorem rsz_le (s:ByteArray) (a:Nat) (h:a≤s.size):a+rsz s a≤s.size:=by
 by_cases e:a<s.size
 ·rw [rsz_in e];exact (dw_facts s a e).2.2
 ·rw [rsz_out (by omega)];exact h
theorem rpt_rng (s:ByteArray) (a:Nat):-1≤rpt s a∧rpt s a≤1114111:=by
 unfold rpt
 have:=dp_le s a
 split <;> omega
def RB (W:World) (g:Nat) (s:ByteArray) (a:Nat) (p n:Int) (b:Nat) (f:Nat) (v:Value):Prop:=
 W.heap[g]?=some (.cells #[.string s,.int .i64 a,.int .i32 p,.int .i64 n,.int .i64 b,.int .i64 (pL s b),.int .i64 (pC s b),.int .i64 f,v] 100 (0,0))
structure Rq (w0 W:World) (g:Nat) (s:ByteArray) (a:Nat) (p n:Int) (b f:Nat) (l:List Tv):Prop where
 bel:Below w0.heap.size w0 W
 g0:w0.heap.size≤g
 blk:∃v,RB W g s a p n b f v∧Rt w0.heap.size W v l
def Rs (w0 W:World) (g:Nat) (s:ByteArray) (a b f:Nat) (l:List Tv):Prop:=Rq w0 W g s a (rpt s a) (rsz s a) b f l
theorem Rq.below {w0 W W':World}{g:Nat}{s:ByteArray}{a:Nat}{p n:Int}{b f:Nat}{l:List Tv}(h:Rq w0 W g s a p n b f l) (hb:Below W.heap.size W W'):Rq w0 W' g s a p n b f l:=by
 obtain ⟨h1,h2,v,h3,h4⟩:=h
 exact ⟨h1.trans (hb.mono h1.size),h2,v,blk_below h3 hb,h4.below hb⟩
theorem Rq.set {w0 W:World}{g:Nat}{s:ByteArray}{a:Nat}{p n:Int}{b f:Nat}{l:List Tv}{v:Value}(h1:Below w0.heap.size w0 W) (h2:w0.heap.size≤g) (h3:RB W g s a p n b f v) (h4:Rt w0.heap.size W v l) (k:Nat) (u:Value)
  {s':ByteArray} {a':Nat} {p' n':Int} {b' f':Nat} {v':Value} (he:#[.string s,.int .i64 a,.int .i32 p,.int .i64 n,.int .i64 b,.int .i64 (pL s b),.int .i64 (pC s b),.int .i64 f,v].setIfInBounds k u=#[.string s',.int .i64 a',.int .i32 p',.int .i64 n',.int .i64 b',.int .i64 (pL s' b'),.int .i64 (pC s' b'),.int .i64 f',v']) (hv:v'=v) :
  Below w0.heap.size w0 (W.setCell ⟨g,k,none⟩ u)∧RB (W.setCell ⟨g,k,none⟩ u) g s' a' p' n' b' f' v'∧Rt w0.heap.size (W.setCell ⟨g,k,none⟩ u) v' l:=by
 refine ⟨h1.setCell (p:=⟨g,k,none⟩) h2 u,?_,?_⟩
 ·have:=blk_set h3 k u
  rw [he] at this
  exact this
 ·rw [hv]
  exact h4.kp (Kp.set W g k u) (h4.ne h3 (by decide))
theorem Rq.cells {W:World}{g:Nat}{s:ByteArray}{a:Nat}{p n:Int}{b f:Nat}{v:Value}(h:RB W g s a p n b f v) :
  W.cell? ⟨g,0,none⟩=some (.string s)∧W.cell? ⟨g,1,none⟩=some (.int .i64 a)∧W.cell? ⟨g,2,none⟩=some (.int .i32 p)∧W.cell? ⟨g,3,none⟩=some (.int .i64 n)∧W.cell? ⟨g,4,none⟩=some (.int .i64 b) ∧
  W.cell? ⟨g,5,none⟩=some (.int .i64 (pL s b))∧W.cell? ⟨g,6,none⟩=some (.int .i64 (pC s b))∧W.cell? ⟨g,7,none⟩=some (.int .i64 f)∧W.cell? ⟨g,8,none⟩=some v:=
 ⟨blk_cell h rfl,blk_cell h rfl,blk_cell h rfl,blk_cell h rfl,blk_cell h rfl,blk_cell h rfl,blk_cell h rfl,blk_cell h rfl,blk_cell h rfl⟩
theorem RB.frozen {W:World}{g:Nat}{s:ByteArray}{a:Nat}{p n:Int}{b f:Nat}{v:Value}(h:RB W g s a p n b f v) (k:Nat):W.frozen? ⟨g,k,none⟩=false:=blk_frozen h
theorem beqd (p q:Int):(false || decide (p=q))=(p == q):=by rw [Bool.eq_iff_iff];simp
theorem isDigit_any (p:Int) (w:World) :
  Calls Tryz.prog 87 #[.int .i32 p] w fun e w'=>e=.returned (.bool (decide (48≤p) && decide (p≤57)))∧w'=w:=by
 by_cases h:48≤p
 ·have e:(decide (48≤p) && decide (p≤57))=decide (p≤57):=by rw [decide_eq_true h];rfl
  rw [e]
  clear e
  go_enter Tryz.func87,Tryz.ntmps87
  go_wp2_with fail
  go_ret
  exact ⟨rfl,rfl⟩
 ·have e:(decide (48≤p) && decide (p≤57))=false:=by rw [decide_eq_false h];rfl
  rw [e]
  clear e
  go_enter Tryz.func87,Tryz.ntmps87
  go_wp2_with fail
  go_ret
  exact ⟨rfl,rfl⟩
theorem isControl_any (p:Int) (w:World) :
  Calls Tryz.prog 140 #[.int .i32 p] w fun e w'=>e=.returned (.bool (decide (p<32) || decide (p=127)))∧w'=w:=by
 by_cases h:p<32
 ·have e:(decide (p<32) || decide (p=127))=true:=by rw [decide_eq_true h];rfl
  rw [e]
  clear e
  go_enter Tryz.func140,Tryz.ntmps140
  go_wp2_with fail
  go_ret
  exact ⟨rfl,rfl⟩
 ·have e:(decide (p<32) || decide (p=127))=(p == 127):=by rw [decide_eq_false h];exact beqd _ _
  rw [e]
  clear e
  go_enter Tryz.func140,Tryz.ntmps140
  go_wp2_with fail
  go_ret
  exact ⟨rfl,rfl⟩
theorem endsLine_any (p:Int) (w:World) :
  Calls Tryz.prog 139 #[.int .i32 p] w fun e w'=>e=.returned (.bool (decide (p=10) || decide (p=-1)))∧w'=w:=by
 by_cases h:p=10
 ·subst h
  go_enter Tryz.func139,Tryz.ntmps139
  go_wp2_with fail
  go_ret
  exact ⟨rfl,rfl⟩
 ·have e:(decide (p=10) || decide (p=-1))=(p == -1):=by rw [decide_eq_false h];exact beqd _ _
  have h1:(p == 10)=false:=by simpa using h
  rw [e]
  clear e h
  go_enter Tryz.func139,Tryz.ntmps139
  go_wp2_with fail
  go_ret
  exact ⟨rfl,rfl⟩
theorem look_any {w0 W:World}{g:Nat}{s:ByteArray}{a:Nat}{p n:Int}{b f:Nat}{l:List Tv}(h:Rq w0 W g s a p n b f l) (hs:s.size≤2147483647) (ha:a≤s.size) :
  Calls Tryz.prog 50 #[.pointer (some ⟨g,0,none⟩)] W fun e w'=>e=.returned (.tuple #[])∧Rs w0 w' g s a b f l:=by
 obtain ⟨h1,h2,v,h3,h4⟩:=h
 obtain ⟨c0,c1,c2,c3,c4,c5,c6,c7,c8⟩:=Rq.cells h3
 by_cases hlt:a<s.size
 ·have hd:=dp_le s a
  obtain ⟨hw1,hw2,hw3⟩:=dw_facts s a hlt
  have HN:Hid (∀w,Calls Tryz.prog 82 #[.string s,.int .i64 a] w fun e w'=>e=.returned (.tuple #[.int .i64 (dp s a),.int .i64 (dw s a),.bool (gd s a)])∧Below w.heap.size w w'):=fun w=>by
   have:=next_in s a w (by unfold maxLen;omega) (by omega) (by omega)
   rw [Int.toNat_natCast] at this
   exact this
  have HR:Hid (∀w',Below W.heap.size W w'→Below w0.heap.size w0 w'∧RB w' g s a p n b f v∧Rt w0.heap.size w' v l):=fun w' hb=>⟨h1.trans (hb.mono h1.size),blk_below h3 hb,h4.below hb⟩
  have HK:Hid (∀V,Below W.heap.size W V→V.cell? ⟨g,0,none⟩=some (.string s)∧V.cell? ⟨g,1,none⟩=some (.int .i64 a)∧Below W.heap.size W V):=fun V hV=>⟨blk_cell (blk_below h3 hV) rfl,blk_cell (blk_below h3 hV) rfl,hV⟩
  have e1:=rpt_in hlt
  have e2:=rsz_in hlt
  have HE:Hid (rpt s a=dp s a∧rsz s a=dw s a):=⟨e1,e2⟩
  generalize dp s a=x at *
  generalize dw s a=y at *
  generalize gd s a=z at *
  clear e1 e2 h1 h3 h4 c0 c1 c2 c3 c4 c5 c6 c7 c8
  go_enter Tryz.func50,Tryz.ntmps50
  go_wp2_with fail
  go_region_held3 (fun w'=>w'.cell? ⟨g,0,none⟩=some (.string s)∧w'.cell? ⟨g,1,none⟩=some (.int .i64 a)∧Below W.heap.size W w') (first|(exact HK.out _ (by assumption))|(exact HK.out _ (Below.refl _ _).drew)|go_keep) (first|(go_at_call 82;refine (HN.out _).mono ?_;rintro e w1 ⟨rfl,hb1⟩;have hbW:=(by first|exact (Below.refl W.heap.size W).drew.trans (hb1.mono (Nat.le_refl _))|exact (by assumption:Below W.heap.size W _).trans (hb1.mono (Below.size (by assumption))):Below W.heap.size W w1)))
  all_goals (
   obtain ⟨k1,k3,k4⟩:=HR.out _ hbW
   have z2:=k3.frozen 2
   have z3:=k3.frozen 3
   obtain ⟨_,_,c2,c3,_⟩:=Rq.cells k3
   obtain ⟨m1,m3,m4⟩:=Rq.set k1 h2 k3 k4 2 (.int .i32 x) (p':=x) rfl rfl
   obtain ⟨n1,n3,n4⟩:=Rq.set m1 h2 m3 m4 3 (.int .i64 y) (n':=y) rfl rfl
   have HF:Hid (Rs w0 ((w1.setCell ⟨g,2,none⟩ (.int .i32 x)).setCell ⟨g,3,none⟩ (.int .i64 y)) g s a b f l):=⟨n1,h2,v,by rw [HE.out.1,HE.out.2];exact n3,n4⟩
   clear k1 k3 k4 m1 m3 m4 n1 n3 n4
   go_wp2_with fail
   go_end0
   exact ⟨rfl,HF.out⟩)
 ·have HN:Hid (∀w,Calls Tryz.prog 82 #[.string s,.int .i64 a] w fun e w'=>e=.returned (.tuple #[.int .i64 0,.int .i64 0,.bool false])∧Below w.heap.size w w'):=fun w=>next_out s a w (by unfold maxLen;omega) (.inr (by omega))
  have HR:Hid (∀w',Below W.heap.size W w'→Below w0.heap.size w0 w'∧RB w' g s a p n b f v∧Rt w0.heap.size w' v l):=fun w' hb=>⟨h1.trans (hb.mono h1.size),blk_below h3 hb,h4.below hb⟩
  have HK:Hid (∀V,Below W.heap.size W V→V.cell? ⟨g,0,none⟩=some (.string s)∧V.cell? ⟨g,1,none⟩=some (.int .i64 a)∧Below W.heap.size W V):=fun V hV=>⟨blk_cell (blk_below h3 hV) rfl,blk_cell (blk_below h3 hV) rfl,hV⟩
  have HE:Hid (rpt s a=-1∧rsz s a=0):=⟨rpt_out (by omega),rsz_out (by omega)⟩
  clear h1 h3 h4 c0 c1 c2 c3 c4 c5 c6 c7 c8
  go_enter Tryz.func50,Tryz.ntmps50
  go_wp2_with fail
  go_region_held3 (fun w'=>w'.cell? ⟨g,0,none⟩=some (.string s)∧w'.cell? ⟨g,1,none⟩=some (.int .i64 a)∧Below W.heap.size W w') (first|(exact HK.out _ (by assumption))|(exact HK.out _ (Below.refl _ _).drew)|go_keep) (first|(go_at_call 82;refine (HN.out _).mono ?_;rintro e w1 ⟨rfl,hb1⟩;have hbW:=(by first|exact (Below.refl W.heap.size W).drew.trans (hb1.mono (Nat.le_refl _))|exact (by assumption:Below W.heap.size W _).trans (hb1.mono (Below.size (by assumption))):Below W.heap.size W w1)))
  all_goals (
   obtain ⟨k1,k3,k4⟩:=HR.out _ hbW
   have z2:=k3.frozen 2
   have z3:=k3.frozen 3
   obtain ⟨_,_,c2,c3,_⟩:=Rq.cells k3
   obtain ⟨m1,m3,m4⟩:=Rq.set k1 h2 k3 k4 2 (.int .i32 0) (p':=0) rfl rfl
   obtain ⟨n1,n3,n4⟩:=Rq.set m1 h2 m3 m4 3 (.int .i64 0) (n':=0) rfl rfl
   obtain ⟨o1,o3,o4⟩:=Rq.set n1 h2 n3 n4 2 (.int .i32 (-1)) (p':=-1) rfl rfl
   have HF:Hid (Rs w0 (((w1.setCell ⟨g,2,none⟩ (.int .i32 0)).setCell ⟨g,3,none⟩ (.int .i64 0)).setCell ⟨g,2,none⟩ (.int .i32 (-1))) g s a b f l):=⟨o1,h2,v,by rw [HE.out.1,HE.out.2];exact o3,o4⟩
   clear k1 k3 k4 m1 m3 m4 n1 n3 n4 o1 o3 o4
   go_wp2_with fail
   go_end0
   exact ⟨rfl,HF.out⟩)
end Go.Proofs.YtpdlohfdjiaegaaGreatDoor.Lx
