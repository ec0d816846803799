import Derived.Deep.CutRange
import Derived.Test.YtjiepkenkcgkhaaGreatDoorM33
set_option linter.unusedVariables false
set_option linter.unusedSimpArgs false
set_option maxHeartbeats 4000000
namespace Go.Proofs.YtjiepkenkcgkhaaGreatDoor
open Go.RowKit
open Lw (Dc bE rt cy dh eZ ij bU aW cg)
variable {W' w' V W1:World}{st:Sy}{g n:Nat}{v:Value}{o:Oper}{a:Act}
theorem dR {B:Nat}{w W:World}(h:Below B w W) (m:Nat):Below B w (W.drewN m):=⟨by rw [World.drewN];exact h.os,by rw [World.drewN];exact h.tape,by rw [World.drewN];exact h.output,by rw [World.drewN];exact h.size,by rw [World.drewN];exact h.block⟩
theorem r9 {S:Nat->Prop}{W:World}(h:SS S W g st) (hl:st.ws.length<=1000000000) (hm:∀m,st.mr=some m->m<=st.ws.length) (f:Int) :
  Ra 126 #[bV g,.int .i64 f] W fun r w'=>r=.returned (.tuple #[])/\Mv S g W w' (st.emp f):=by
 obtain ⟨vn,vw,hv,s1,s2⟩:=h.ex;have hsg:=h.sg;obtain ⟨p,cap,e,hc1,hc2⟩:=bB hv.rd;subst e;obtain ⟨c0,c1,c2,c3,c4,c5,c6,c7⟩:=hv.sb.cells;have hgl:=hv.sb.lt;have quiet:st.emp f=st->∀V,Below W.heap.size W V->Mv S g W V (st.emp f):=fun e V hb=>by rw [e];exact Mv.quiet h hb
 cases hmr:st.mr with
 |none=>
  have HM:Hid (∀V,Rc W V->Mv S g W V (st.emp f)):=quiet (by unfold Sy.emp;rw [hmr]);rw [hmr] at c3 c4;clear quiet h hv s1 s2;have HB:Hid (∀m,Rc W (W.drewN m)):=fun m=>dR (hH _ _) m
  go_enter Vl,U8
  go_wp2_with fail
  go_quiet (fail)
  go_wp2_with fail
  refine QV (v:=.tuple #[]) (by simp [results,Tryz.f126,go_sem]) rfl ?_;exact ⟨rfl,HM.out _ (HB.out _)⟩
 |some m=>
  have hml:=hm m hmr;rw [hmr] at c3 c4;simp only [Option.isSome_some,Um] at c3 c4;have HB:Hid (∀m,Rc W (W.drewN m)):=fun m=>dR (hH _ _) m
  by_cases hf:f<2
  ·have HM:Hid (∀V,Rc W V->Mv S g W V (st.emp f)):=quiet (by unfold Sy.emp;rw [hmr];simp only;rw [IO (.inl hf)]);clear quiet h hv s1 s2
   go_enter Vl,U8
   go_wp2_with fail
   go_quiet (fail)
   go_wp2_with fail
   refine QV (v:=.tuple #[]) (by simp [results,Tryz.f126,go_sem]) rfl ?_;exact ⟨rfl,HM.out _ (HB.out _)⟩
  ·have qf:decide (f<2)=false:=QX hf;cases hw:st.wr with
   |false=>
    have HM:Hid (∀V,Rc W V->Mv S g W V (st.emp f)):=quiet (by unfold Sy.emp;rw [hmr];simp only;rw [IO (.inr (.inl hw))]);rw [hw] at c5;clear quiet h hv s1 s2 c0 c1 c6 c7 hm hmr hml hw hl hsg hc1 hc2
    go_enter Vl,U8
    go_wp2_with fail
    go_quiet (fail)
    go_wp2_with fail
    refine QV (v:=.tuple #[]) (by simp [results,Tryz.f126,go_sem]) rfl ?_;exact ⟨rfl,HM.out _ (HB.out _)⟩
   |true=>
    rw [hw] at c5
    have HK:Hid (∀V,Rc W V->(V.cell? ⟨g,3,none⟩=some (.bool true)/\V.cell? ⟨g,5,none⟩=some (.bool true)/\V.cell? ⟨g,2,none⟩=some (.slice p st.ws.length cap)/\V.cell? ⟨g,4,none⟩=some (.int .i64 m)/\Rc W V)):=fun V hb=>by
     have hgs:=hgl;exact ⟨(hb.cell hgs).trans c3,(hb.cell hgs).trans c5,(hb.cell hgs).trans c2,(hb.cell hgs).trans c4,hb⟩
    have HC:Hid (∀V,Rc W V->Ra 165 #[.slice p m cap,.func (.func 166) #[] #[]] V fun r w'=>r=.returned (.bool ((st.ws.take m).any be))/\Rc V w'):=fun V hb=>by
     have hl2:(st.ws.take m).length=m:=by rw [Ri];omega
     have:=FG p (st.ws.take m) cap V ((uC (hv.below hb).rd).take m) (by omega);rw [hl2] at this;exact this
    have q5:(0:Int)<=(m:Int):=by omega
    have q6:(m:Int)<=(cap:Int):=by omega
    have HM:Hid ((st.ws.take m).any be=true->∀V,Rc W V->Mv S g W V (st.emp f)):=fun ha=>quiet (by unfold Sy.emp;rw [hmr];simp only;rw [IO (.inr (.inr ha))])
    have HI:Hid ((st.ws.take m).any be=false->∀V,Rc W V->Ra 133 #[.slice p st.ws.length cap,.int .i64 m,.slice (some ⟨V.heap.size,0,none⟩) 1 1] (V.alloc (.cells #[.int .u8 5,.string ⟨#[]⟩,.int .i64 0,.int .i64 0,.bool false] 71)) fun r w'=>∃p' n' c',r=.returned (.slice p' n' c')/\(w'.cell? ⟨g,2,none⟩=some (.slice p st.ws.length cap)/\w'.frozen? ⟨g,2,none⟩=false)/\Mv S g W (w'.setCell ⟨g,2,none⟩ (.slice p' n' c')) (st.emp f)):=fun ha V hb=>by
     have e9:st.emp f={ st with ws:=st.ws.take m++dE :: st.ws.drop m }:=by
      unfold Sy.emp;rw [hmr];simp only;rw [Eq (by rintro (a|a|a);exact hf a;rw [hw] at a;cases a;rw [ha] at a;cases a)]
     rw [e9];exact vo hv hsg s1 s2 hl dE (i:=m) hml hb
    generalize (st.ws.take m).any be=bg at *
    generalize st.ws.length=n0 at *
    clear quiet h hv s1 s2 c0 c1 c6 c7 hm hmr hw hsg hc2 c2 c3 c4 c5 hl hml hc1
    go_enter Vl,U8
    go_wp2_with fail
    go_region_held3 (fun w'=>w'.cell? ⟨g,3,none⟩=some (.bool true)/\w'.cell? ⟨g,5,none⟩=some (.bool true)/\w'.cell? ⟨g,2,none⟩=some (.slice p n0 cap)/\w'.cell? ⟨g,4,none⟩=some (.int .i64 m)/\Below W.heap.size W w') (first|(exact HK.out _ (by assumption))|(exact HK.out _ (hH _ _).drew)|go_keep) (first|(go_at_call 165;refine (HC.out _ (by first|assumption|exact (hH _ _).drew)).mono ?_;rintro e w1 ⟨rfl,hb1⟩;have hbW:=(by first|exact (hH W.heap.size W).drew.trans (hb1.mono (gt _))|exact (by assumption:Below W.heap.size W _).trans (hb1.mono (TQ (by assumption))):Below W.heap.size W w1);clear hb1))
    all_goals (
     have HBW:Hid (Rc W w1):=hbW;cases bg with
     |true=>
      have HM2:Hid (Mv S g W w1 (st.emp f)):=HM.out rfl _ hbW;clear HM HI
      go_wp2_with fail
      refine QV (v:=.tuple #[]) (by simp [results,Tryz.f126,go_sem]) rfl ?_;exact ⟨rfl,HM2.out⟩
     |false=>
      obtain ⟨x1,x2,x3,x4,_⟩:=HK.out _ hbW;have hg1:g<w1.heap.size:=Q1 hgl hbW.size;have HBD:Hid (Rc W w1.drew):=hbW.drew;have HI2:Hid (∀V,Rc W V->Ra 133 #[.slice p n0 cap,.int .i64 m,.slice (some ⟨V.heap.size,0,none⟩) 1 1] (V.alloc (.cells #[.int .u8 5,.string ⟨#[]⟩,.int .i64 0,.int .i64 0,.bool false] 71)).drew fun r w'=>∃p' n' c',r=.returned (.slice p' n' c')/\(w'.cell? ⟨g,2,none⟩=some (.slice p n0 cap)/\w'.frozen? ⟨g,2,none⟩=false)/\Mv S g W (w'.setCell ⟨g,2,none⟩ (.slice p' n' c')) (st.emp f)):=fun V hb=>HI.out rfl V.drew hb.drew
      clear hbW HM HI
      go_wp2_with fail
      go_region_law (first|(go_simp;go_at_call 133;refine (HI2.out w1 HBW.out).mono ?_;rintro r w3 ⟨p3,n3,c3,rfl,⟨y2,y3⟩,y4⟩;have HX:=ai y4;clear y4))
      all_goals (
       go_wp2_with fail
       go_end0
       exact ⟨rfl,HX.out⟩))
structure HW (S:World->Prop) where
 W:World
 h:S W
theorem dN {P:Program}{S:World->Prop}{id:Nat}{Q:Exit->Act->World->Prop}{a:Act}{w:World}{l:List Oper}(hm:P.follows .mixedOrders=true) (hB:Region.lexB .any l.toArray=true) (hC:S w.drew)
  (h:wpQuiet P l.toArray (fun w'=>∃x:HW S,w'=x.W) (fun a'=>∀w',(∃x:HW S,w'=x.W)->Q .normal a' w') l a):(Code.region id l.toArray true).wp P Q a w:=
 wp_region_quiet (C:=fun w'=>∃x:HW S,w'=x.W) hm hB ⟨⟨w.drew,hC⟩,rfl⟩ (by simpa using h)
theorem Calls.quiet_in {P:Program}{S:World->Prop}{f:FuncId}{args:Array Value}(x:HW S) (h:Calls P f args x.W fun e w'=>e=.returned v/\Below x.W.heap.size x.W w') (hS:∀W W',S W->Below W.heap.size W W'->S W') :
  Calls P f args x.W fun e w''=>e=.returned v/\∃y:HW S,w''=y.W:=
 h.mono fun e w' ⟨he,hb⟩=>⟨he,⟨w',hS _ _ x.h hb⟩,rfl⟩
theorem cE {w:World}{p:Addr}(h:w.cell? p=some v) (hb:Below w.heap.size w w'):w'.cell? p=some v:=(hb.cell (QP w p h)).trans h
def SG (V W:World):Prop:=Below V.heap.size V W
theorem SG.keep {W:World}(h:SG V W) (hb:Below W.heap.size W W'):SG V W':=Below.trans h (hb.mono (TQ h))
theorem MC (n:Nd) (k:Int) (W:World):Ra 204 #[.agg #[.int .u8 n.k,.int .i64 n.b,.bool n.s],.int .u8 k] W fun e w'=>e=.returned (.bool (n.is k))/\Below W.heap.size W w':=by
 have HB:Hid (∀o,Rc W (W.alloc o)):=fun o=>(hH _ _).alloc (gt _) _
 by_cases h33:k=33
 ·subst h33
  have HQ:Hid (n.is 33=(n.k == 5 && (n.b:Int) == 0)):=by
   show _=_
   unfold Nd.is;rw [IO rfl]
   by_cases a:n.k=5 <;> by_cases b:n.b=0 <;> simp [a,b]
  go_enter Tryz.func204,Tryz.ntmps204
  go_wp2_with fail
  all_goals (go_ret;rw [HQ.out];refine ⟨?_,HB.out _⟩;simp_all)
 ·have q:(k == 33)=false:=by simpa using h33
  have HQ:Hid (n.is k=(n.k == k)):=by
   show _=_
   unfold Nd.is;rw [Eq h33]
   by_cases a:n.k=k <;> simp [a]
  clear h33
  go_enter Tryz.func204,Tryz.ntmps204
  go_wp2_with fail
  go_ret
  rw [HQ.out];exact ⟨rfl,HB.out _⟩
def Lk (w:World) (b:Nat) (l:List Int):Prop:=∀j d,l[j]?=some d->w.cell? ⟨b,j,none⟩=some (.int .u8 d)
theorem Lk.below {w:World}{b:Nat}{l:List Int}(h:Lk w b l) (hb:Below w.heap.size w w'):Lk w' b l:=fun j d hj=>(hb.cell (QP _ _ (h j d hj))).trans (h j d hj)
theorem Jm (n:Nd) (b:Nat) (l:List Int) (cap:Nat) (W:World) (h:Lk W b l) (hl:l.length<=1000000000) :
  Ra 222 #[.slice (some ⟨b,0,none⟩) l.length cap,.func (.func 204) #[.agg #[.int .u8 n.k,.int .i64 n.b,.bool n.s]] #[]] W fun r w'=>(∃z:Int,r=.returned (.int .i64 z)/\(decide (0<=z)=l.any n.is))/\Below W.heap.size W w':=by
 have H:Hid (Lk W b l):=h;clear h;have HP:Hid (∀(k:Int) (V:World),Ra 204 #[.agg #[.int .u8 n.k,.int .i64 n.b,.bool n.s],.int .u8 k] V fun e w'=>e=.returned (.bool (n.is k))/\Rc V w'):=MC n
 go_enter Tryz.func222,Tryz.ntmps222
 go_wp2_with fail
 go_loopw [5,8] (fun _ i wr=>∃k:Nat,k<=l.length/\i=.int .i64 k/\Hid ((l.take k).any n.is=false)/\Hid (Below W.heap.size W wr)) (fun _ i _=>l.length-(intOf i).toNat)
 case atStart=>exact ⟨0,QK _,rfl,by show _=_;simp,hH _ _⟩
 case round=>
  obtain ⟨k,hk,rfl,HI,HB⟩:=hrel
  by_cases hlt:k<l.length
  ·have q1:(k:Int)<l.length:=by omega
   have q0:(0:Int)<=k:=by omega
   obtain ⟨x,hx⟩:∃x,l[k]?=some x:=⟨_,Pi hlt⟩;have c0:=(H.out.below HB.out) k x hx;have HS:Hid ((l.take (k+1)).any n.is=n.is x):=kW n.is l k x hx HI.out;have HT:Hid ((l.take (k+1)).any n.is=true->l.any n.is=true):=kV n.is l _;clear hx
   by_cases he:n.is x=true
   ·go_wp2_with (go_at_call 204;refine (HP.out x _).mono ?_;rintro e w1 ⟨rfl,hb1⟩;rw [he];have HC:Hid (Rc W w1):=HB.out.trans (hb1.mono HB.out.size);clear hb1)
    go_ret
    exact ⟨⟨_,rfl,by rw [HT.out (HS.out.trans he)];simp⟩,HC.out⟩
   ·have he':n.is x=false:=by simpa using he
    clear he
    go_wp2_with (go_at_call 204;refine (HP.out x _).mono ?_;rintro e w1 ⟨rfl,hb1⟩;rw [he'];have HC:Hid (Rc W w1):=HB.out.trans (hb1.mono HB.out.size);clear hb1)
    exact ⟨⟨k+1,hlt,by go_num,HS.out.trans he',HC⟩,by simp [intOf];omega⟩
  ·obtain rfl:k=l.length:=by omega
   have q1:¬((l.length:Int)<l.length):=by omega
   go_wp2_with fail
   go_ret
   refine ⟨⟨_,rfl,?_⟩,HB.out⟩;have:=HI.out;rw [RQ] at this;rw [this];rfl
theorem JY (n:Nd) (b:Nat) (l:List Int) (cap:Nat) (W:World) (h:Lk W b l) (hl:l.length<=1000000000) :
  Ra 203 #[.slice (some ⟨b,0,none⟩) l.length cap,.func (.func 204) #[.agg #[.int .u8 n.k,.int .i64 n.b,.bool n.s]] #[]] W fun r w'=>r=.returned (.bool (l.any n.is))/\Below W.heap.size W w':=by
 have H:Hid (Ra 222 #[.slice (some ⟨b,0,none⟩) l.length cap,.func (.func 204) #[.agg #[.int .u8 n.k,.int .i64 n.b,.bool n.s]] #[]] W fun r w'=>(∃z:Int,r=.returned (.int .i64 z)/\(decide (0<=z)=l.any n.is))/\Rc W w'):=Jm n b l cap W h hl;clear h
 generalize l.any n.is=bb at *
 go_enter Tryz.func203,Tryz.ntmps203
 go_wp2_with (go_at_call 222;refine H.out.mono ?_;rintro r w1 ⟨⟨z,rfl,hz⟩,hb1⟩;have HB:Hid (Rc W w1):=hb1;clear hb1;subst hz)
 go_ret
 exact ⟨by simp,HB.out⟩
theorem BO (n0 n1 n2 n3 n4 n5:Int) (t:ByteArray) (fa fb:Nat) (n:Nd) (tx:ByteArray) (W:World) :
  Ra 163 #[.agg #[.int .u8 n0,.int .u8 n1,.int .u8 n2,.int .u8 n3,.int .u8 n4,.int .u8 n5,.string t,.func (.func fa) #[] #[],.func (.func fb) #[] #[]],.agg #[.int .u8 n.k,.int .i64 n.b,.bool n.s],.string tx] W fun e w'=>e=.returned (.bool ((t.toList == [] || t.toList == tx.toList) && [n0,n1,n2,n3,n4,n5].any n.is))/\Below W.heap.size W w':=by
 obtain ⟨V,hV⟩:∃V,(W.alloc (.cells #[.int .u8 n0,.int .u8 n1,.int .u8 n2,.int .u8 n3,.int .u8 n4,.int .u8 n5,.string t,.func (.func fa) #[] #[],.func (.func fb) #[] #[]] 220)).alloc (.cells #[.int .u8 n.k,.int .i64 n.b,.bool n.s] 208)=V:=⟨_,rfl⟩;have hs:(W.alloc (.cells #[.int .u8 n0,.int .u8 n1,.int .u8 n2,.int .u8 n3,.int .u8 n4,.int .u8 n5,.string t,.func (.func fa) #[] #[],.func (.func fb) #[] #[]] 220)).heap.size=W.heap.size+1:=by show (W.heap.push _).size=_;simp
 have hr:V.heap[W.heap.size]?=some (.cells #[.int .u8 n0,.int .u8 n1,.int .u8 n2,.int .u8 n3,.int .u8 n4,.int .u8 n5,.string t,.func (.func fa) #[] #[],.func (.func fb) #[] #[]] 220 (0,0)):=by rw [<-hV];exact aI (au W _) _
 have hd:V.heap[W.heap.size+1]?=some (.cells #[.int .u8 n.k,.int .i64 n.b,.bool n.s] 208 (0,0)):=by rw [<-hV,<-hs];exact au _ _
 have hB:Below W.heap.size W V:=by rw [<-hV];exact ((hH _ _).alloc (gt _) _).alloc (by omega) _
 have HV:Hid ((W.alloc (.cells #[.int .u8 n0,.int .u8 n1,.int .u8 n2,.int .u8 n3,.int .u8 n4,.int .u8 n5,.string t,.func (.func fa) #[] #[],.func (.func fb) #[] #[]] 220)).alloc (.cells #[.int .u8 n.k,.int .i64 n.b,.bool n.s] 208)=V):=hV
 have HLk:Lk V W.heap.size [n0,n1,n2,n3,n4,n5]:=fun j d hj=>by
  match j,hj with
  |0,hj=>cases hj;exact af hr rfl
  |1,hj=>cases hj;exact af hr rfl
  |2,hj=>cases hj;exact af hr rfl
  |3,hj=>cases hj;exact af hr rfl
  |4,hj=>cases hj;exact af hr rfl
  |5,hj=>cases hj;exact af hr rfl
  |j+6,hj=>simp at hj
 have HC:Hid (∀X,Below V.heap.size V X->Ra 203 #[.slice (some ⟨W.heap.size,0,none⟩) 6 6,.func (.func 204) #[.agg #[.int .u8 n.k,.int .i64 n.b,.bool n.s]] #[]] X fun r w'=>r=.returned (.bool ([n0,n1,n2,n3,n4,n5].any n.is))/\Below X.heap.size X w'):=fun X hX=>JY n W.heap.size [n0,n1,n2,n3,n4,n5] 6 X (HLk.below hX) (by simp)
 have HF:Hid (∀X,Below V.heap.size V X->Below W.heap.size W X):=fun X hX=>hB.trans (hX.mono hB.size)
 have m6:V.cell? ⟨W.heap.size,6,none⟩=some (.string t):=af hr rfl;have m0:V.cell? ⟨W.heap.size+1,0,none⟩=some (.int .u8 n.k):=af hd rfl;have m1:V.cell? ⟨W.heap.size+1,1,none⟩=some (.int .i64 n.b):=af hd rfl;have m2:V.cell? ⟨W.heap.size+1,2,none⟩=some (.bool n.s):=af hd rfl;have HK:Hid (∀X,Below V.heap.size V X->(X.cell? ⟨W.heap.size,6,none⟩=some (.string t)/\X.cell? ⟨W.heap.size+1,0,none⟩=some (.int .u8 n.k)/\X.cell? ⟨W.heap.size+1,1,none⟩=some (.int .i64 n.b)/\X.cell? ⟨W.heap.size+1,2,none⟩=some (.bool n.s)/\Below V.heap.size V X)):=fun X hX=>⟨(hX.cell (aq hr)).trans m6,(hX.cell (aq hd)).trans m0,(hX.cell (aq hd)).trans m1,(hX.cell (aq hd)).trans m2,hX⟩
 have HD:Hid (∀m,Below V.heap.size V (V.drewN m)):=fun m=>dR (hH _ _) m
 clear hr hd hB HLk hs hV
 generalize [n0,n1,n2,n3,n4,n5].any n.is=bb at *
 by_cases hq:(t.toList == [] || t.toList == tx.toList)=true
 ·rw [hq,R4]
  by_cases he:(t.toList == [])=true
  ·have p0:t.toList.isEmpty=true:=by simpa using he
   have hc6:∀x:HW (SG V),x.W.cell? ⟨W.heap.size,6,none⟩=some (.string t):=fun x=>cE m6 x.h
   have hc0:∀x:HW (SG V),x.W.cell? ⟨W.heap.size+1,0,none⟩=some (.int .u8 n.k):=fun x=>cE m0 x.h
   have hc1:∀x:HW (SG V),x.W.cell? ⟨W.heap.size+1,1,none⟩=some (.int .i64 n.b):=fun x=>cE m1 x.h
   have hc2:∀x:HW (SG V),x.W.cell? ⟨W.heap.size+1,2,none⟩=some (.bool n.s):=fun x=>cE m2 x.h
   have hne:Nonempty (HW (SG V)):=⟨⟨V.drew,(hH _ _).drew⟩⟩;have hex:∀x:HW (SG V),∃y:HW (SG V),x.W=y.W:=fun x=>⟨x,rfl⟩
   have KT:Hid (∀x:HW (SG V),Ra 203 #[.slice (some ⟨W.heap.size,0,none⟩) 6 6,.func (.func 204) #[.agg #[.int .u8 n.k,.int .i64 n.b,.bool n.s]] #[]] x.W fun r w'=>r=.returned (.bool bb)/\Below x.W.heap.size x.W w'):=fun x=>HC.out x.W x.h
   clear m6 m0 m1 m2
   go_enter Tryz.func163,Tryz.ntmps163
   go_wp2_with fail
   rw [HV.out];refine dN (S:=SG V) (by kernel_rfl) (by kernel_rfl) (hH _ _).drew ?_
   repeat (go_big_quiet_step ((go_at_call 203;exact Calls.quiet_in _ (KT.out _) (fun _ _=>SG.keep))))
   refine wpQuiet_nil ?_;rintro w5 ⟨⟨W5,hS5⟩,rfl⟩;have HS5:Hid (Below V.heap.size V w5):=hS5;clear hc0 hc1 hc2 hc6 hS5 hne hex
   go_wp2_with fail
   go_ret
   exact ⟨rfl,HF.out _ HS5.out⟩
  ·have he':(t.toList == [])=false:=by simpa using he
   have p2:(t.toList == tx.toList)=true:=by rw [he',U6] at hq;exact hq
   clear he hq;have hc6:∀x:HW (SG V),x.W.cell? ⟨W.heap.size,6,none⟩=some (.string t):=fun x=>cE m6 x.h
   have hc0:∀x:HW (SG V),x.W.cell? ⟨W.heap.size+1,0,none⟩=some (.int .u8 n.k):=fun x=>cE m0 x.h
   have hc1:∀x:HW (SG V),x.W.cell? ⟨W.heap.size+1,1,none⟩=some (.int .i64 n.b):=fun x=>cE m1 x.h
   have hc2:∀x:HW (SG V),x.W.cell? ⟨W.heap.size+1,2,none⟩=some (.bool n.s):=fun x=>cE m2 x.h
   have hne:Nonempty (HW (SG V)):=⟨⟨V.drew,(hH _ _).drew⟩⟩;have hex:∀x:HW (SG V),∃y:HW (SG V),x.W=y.W:=fun x=>⟨x,rfl⟩
   have KT:Hid (∀x:HW (SG V),Ra 203 #[.slice (some ⟨W.heap.size,0,none⟩) 6 6,.func (.func 204) #[.agg #[.int .u8 n.k,.int .i64 n.b,.bool n.s]] #[]] x.W fun r w'=>r=.returned (.bool bb)/\Below x.W.heap.size x.W w'):=fun x=>HC.out x.W x.h
   clear m6 m0 m1 m2
   go_enter Tryz.func163,Tryz.ntmps163
   go_wp2_with fail
   rw [HV.out];refine dN (S:=SG V) (by kernel_rfl) (by kernel_rfl) (hH _ _).drew ?_
   repeat (go_big_quiet_step ((go_at_call 203;exact Calls.quiet_in _ (KT.out _) (fun _ _=>SG.keep))))
   refine wpQuiet_nil ?_;rintro w5 ⟨⟨W5,hS5⟩,rfl⟩;have HS5:Hid (Below V.heap.size V w5):=hS5;clear hc0 hc1 hc2 hc6 hS5 hne hex
   go_wp2_with fail
   go_ret
   exact ⟨rfl,HF.out _ HS5.out⟩
 ·have hq':(t.toList == [] || t.toList == tx.toList)=false:=by simpa using hq
  rw [hq',TE];rw [SZ] at hq';obtain ⟨p1,p2⟩:=hq';clear hq
  go_enter Tryz.func163,Tryz.ntmps163
  go_wp2_with fail
  rw [HV.out]
  go_quiet (fail)
  go_wp2_with fail
  go_ret
  exact ⟨rfl,HF.out _ (HD.out _)⟩
def Rw.cs (r:Rw):List Value:=r.ns.map (Value.int .u8)++[.string ⟨r.t.toArray⟩,.func (.func r.a.id) #[] #[],.func (.func r.b.id) #[] #[]]
def gU:List Value:=tab.flatMap Rw.cs
theorem ui:gU.length=360:=by decide +kernel
theorem C4:∀v∈gU,v.oneCell'=true:=by
 intro v hv;obtain ⟨r,hr,hv⟩:=TG.1 hv;unfold Rw.cs at hv
 rcases Q6.1 hv with h|h
 ·obtain ⟨k,_,rfl⟩:=Tm.1 h;rfl
 ·simp only [Rg,Tg,Vr] at h
  rcases h with rfl|rfl|rfl <;> rfl
theorem wS {K:Act->World->Prop}{Q:Exit->Act->World->Prop}{w0 w1:World}{N:Nat}{L:List Value}{f:Unit->World->Result Next}(hL:L=gU) (hr:(storeCells ⟨N,0,none⟩ gU).run Tryz.prog w0=.ok () w1) (h:Oper.upon Tryz.prog o a K Q (f () w1)):Oper.upon Tryz.prog o a K Q ((Sem.run Tryz.prog (storeCells ⟨N,0,none⟩ L) w0).andThen f):=by
 subst hL;rw [hr];exact h
theorem fH {P:Program}{fn:Func}{tmps:Array Value}{w:World}{a:Nat}{t:TypeId}{ad:Addr}{v:Value}(h:fn.results=#[.cell a t]) (ha:tmps.getD a undef=.pointer (some ad)) (hl:(loadVar t ad).run P w=.ok v w):(results fn tmps).run P w=.ok v w:=by
 have ha':tmps[a]?.getD undef=.pointer (some ad):=by rw [<-SL];exact ha
 simp [results,h,ha',asAddr,hl]
set_option maxRecDepth 100000 in
theorem AF (W:World):Ra 162 #[] W fun e w'=>e=.returned (.agg gU.toArray)/\Below W.heap.size W w':=by
 obtain ⟨W0,hW0⟩:∃W0,W.alloc (.cells Tryz.zeroCells250 250)=W0:=⟨_,rfl⟩;have hz:(Tryz.zeroCells250).size=360:=by kernel_rfl
 have hb0:W0.heap[W.heap.size]?=some (.cells Tryz.zeroCells250 250 (0,0)):=by rw [<-hW0];exact au W _
 have hB0:Below W.heap.size W W0:=by rw [<-hW0];exact (hH _ _).alloc (gt _) _
 have hst:=UT Tryz.prog W.heap.size 0 250 gU 0 Tryz.zeroCells250 W0 hb0 (by rw [ui,hz];decide) C4
 have e1:(Tryz.zeroCells250).toList.take (0+0)++gU++(Tryz.zeroCells250).toList.drop (0+0+gU.length)=gU:=by
  rw [ui,R9 (by rw [RG,hz];decide)];simp
 rw [e1] at hst;obtain ⟨W1,hW1⟩:∃W1,W0.setRow W.heap.size gU.toArray=W1:=⟨_,rfl⟩;rw [hW1] at hst;have hb1:W1.heap[W.heap.size]?=some (.cells gU.toArray 250 (0,0)):=by rw [<-hW1];exact Ub W0 _ _ _ _ _ hb0
 have hB1:Below W.heap.size W W1:=by rw [<-hW1];exact ny hB0 (Kp.setRow W0 _ _) (fun k e=>by omega) hB0.size
 have hl:(loadVar 250 ⟨W.heap.size,0,none⟩).run Tryz.prog W1=.ok (.agg gU.toArray) W1:=UD (P:=Tryz.prog) W1 W.heap.size 250 250 gU.toArray (0,0) _ hb1 Tryz.underlying250 (by first|rfl|kernel_rfl) (by first|rfl|kernel_rfl);have HS:Hid ((storeCells ⟨W.heap.size,0,none⟩ gU).run Tryz.prog W0=.ok () W1):=hst;have HL:Hid ((loadVar 250 ⟨W.heap.size,0,none⟩).run Tryz.prog W1=.ok (.agg gU.toArray) W1):=hl;have HB:Hid (Rc W W1):=hB1;have HW:Hid (W.alloc (.cells Tryz.zeroCells250 250)=W0):=hW0;clear hW0 hz hb0 hB0 hst e1 hW1 hb1 hB1 hl
 go_enter Tryz.func162,Tryz.ntmps162
 go_wp2_with fail
 rw [HW.out];refine wS (by kernel_rfl) HS.out ?_
 go_wp2_with fail
 refine QV (v:=.agg gU.toArray) (fH (a:=0) (t:=250) (ad:=⟨W.heap.size,0,none⟩) (by kernel_rfl) (by rfl) HL.out) rfl ?_;exact ⟨rfl,HB.out⟩
theorem SS.nd {S:Nat->Prop}{W:World}{g:Nat}{st:Sy}(h:SS S W g st) {b cap:Nat}{n m:Nd}{r:List Nd}(e:st.ns=n :: r) (hc:W.cell? ⟨g,1,none⟩=some (.slice (some ⟨b,0,none⟩) (r.length+1) cap)) (j:Nat) (u:Value) (hj:j<3) (hm:n.cs.set j u=m.cs) :
  W.frozen? ⟨b,r.length*3+j,none⟩=false/\Mv S g W (W.setCell ⟨b,r.length*3+j,none⟩ u) { st with ns:=m :: r }:=by
 obtain ⟨vn,vw,hv,s1,s2⟩:=h.ex;have e1:vn=.slice (some ⟨b,0,none⟩) (r.length+1) cap:=by have:=hv.sb.cells.2.1;rw [hc] at this;exact (Ry this).symm
 subst e1;have hn:Rn tN W (.slice (some ⟨b,0,none⟩) (r.length+1) cap) (n :: r):=by rw [<-e];exact hv.rn
 refine ⟨T5 hn _,Mv.mk' (SV.nd e hv j u hj hm) h.sg (fun k e=>.inl (s1 k e)) (fun k e=>.inl (s2 k e)) ((Kp.set _ _ _ _).sub (fun k e=>by rw [e];exact s1 b rfl)) hv.sb.cells.2.1⟩
theorem SS.nodes {S:Nat->Prop}{W:World}(h:SS S W g st) {n:Nd}{r:List Nd}(e:st.ns=n :: r):∃b cap,W.cell? ⟨g,1,none⟩=some (.slice (some ⟨b,0,none⟩) (r.length+1) cap)/\W.cell? ⟨b,r.length*3,none⟩=some (.int .u8 n.k)/\W.cell? ⟨b,r.length*3+1,none⟩=some (.int .i64 n.b)/\W.cell? ⟨b,r.length*3+2,none⟩=some (.bool n.s)/\r.length+1<=cap:=by
 obtain ⟨vn,vw,hv,s1,s2⟩:=h.ex;have hn1:=hv.rn;rw [e] at hn1;obtain ⟨b,cap,rfl,hc1,hc2⟩:=mX hn1;obtain ⟨a0,a1,a2⟩:=kq hn1;exact ⟨b,cap,hv.sb.cells.2.1,a0,a1,a2,hc2⟩
theorem SS.cells2 {S:Nat->Prop}{W:World}{g b cap:Nat}{st:Sy}(h:SS S W g st) {n:Nd}{r:List Nd}(e:st.ns=n :: r) (hc:W.cell? ⟨g,1,none⟩=some (.slice (some ⟨b,0,none⟩) (r.length+1) cap)):W.cell? ⟨b,r.length*3,none⟩=some (.int .u8 n.k)/\W.cell? ⟨b,r.length*3+1,none⟩=some (.int .i64 n.b)/\W.cell? ⟨b,r.length*3+2,none⟩=some (.bool n.s):=by
 obtain ⟨b',cap',h1,h2,h3,h4,_⟩:=h.nodes e;rw [hc] at h1;cases h1;exact ⟨h2,h3,h4⟩
theorem oV {S:Nat->Prop}{W:World}(h:SS S W g st) (hz:Bz 999999980 st) {n:Nd}{r:List Nd}(e:st.ns=n :: r) {b cap:Nat}(hc:W.cell? ⟨g,1,none⟩=some (.slice (some ⟨b,0,none⟩) (r.length+1) cap)) :
  Ra 120 #[bV g,.pointer (some ⟨b,r.length*3,none⟩)] W fun rr w'=>rr=.returned (.tuple #[])/\Mv S g W w' st.exprIn:=by
 have hns:st.ns≠[]:=by rw [e];simp
 obtain ⟨a0,a1,a2⟩:=h.cells2 e hc
 by_cases h19:n.k=19
 ·have e9:st.exprIn={ (st.aws [.S,.I 3]) with ns:=⟨n.k,n.b+1,true⟩ :: r }:=by unfold Sy.exprIn;rw [e];simp only;rw [IO h19,IO h19]
  have en:(st.aws [.S,.I 3]).ns=⟨n.k,n.b+1,n.s⟩ :: r:=by show ia (.I 3) (ia .S st.ns)=_;rw [e];rfl
  have HF:Hid (Ra 160 #[bV g] W fun rr w'=>rr=.returned (.tuple #[])/\Mv S g W w' (st.aws Fx.blankIn3.pz)):=mw h hns (hz.mono (by omega))
  have HX:Hid (∀w',Mv S g W w' (st.aws Fx.blankIn3.pz)->w'.frozen? ⟨b,r.length*3+2,none⟩=false/\w'.cell? ⟨b,r.length*3+2,none⟩=some (.bool n.s)/\Mv S g W (w'.setCell ⟨b,r.length*3+2,none⟩ (.bool true)) st.exprIn):=fun w' m=>by
   have hcc:=m.2.2.trans hc;obtain ⟨S1,t1,u1⟩:=Mv.seq m;obtain ⟨x1,x2⟩:=SS.nd t1 (n:=⟨n.k,n.b+1,n.s⟩) (m:=⟨n.k,n.b+1,true⟩) en hcc 2 (.bool true) (by omega) rfl;refine ⟨x1,(t1.cells2 en hcc).2.2,?_⟩;rw [e9];exact u1 _ _ x2
  have q1:(n.k == 19)=true:=by simpa using h19
  clear h hz hns e9 en h19
  go_enter Vm,U9
  go_wp2_with (go_at_call 160;refine HF.out.mono ?_;rintro r1 w1 ⟨rfl,m1⟩;obtain ⟨x1,x2,x3⟩:=HX.out _ m1;have HY:=show Hid (Mv S g W (w1.setCell ⟨b,r.length*3+2,none⟩ (.bool true)) st.exprIn) from x3;clear x3 m1)
  go_end0
  exact ⟨rfl,HY.out⟩
 ·have q1:(n.k == 19)=false:=by simpa using h19
  by_cases h31:n.k=31/\n.s=false
  ·have e9:st.exprIn={ (st.aws [.B0]) with ns:=⟨n.k,n.b,true⟩ :: r }:=by unfold Sy.exprIn;rw [e];simp only;rw [Eq h19,IO h31,Eq h19]
   have en:(st.aws [.B0]).ns=⟨n.k,n.b,n.s⟩ :: r:=by show ia .B0 st.ns=_;rw [e];rfl
   have HF:Hid (Ra 161 #[bV g,.agg #[.int .u8 3,.string ⟨#[]⟩,.int .i64 0,.int .i64 0,.bool false]] W fun rr w'=>rr=.returned (.tuple #[])/\Mv S g W w' (st.aw .B0)):=me h .B0 ⟨rfl,by decide⟩ (hz.mono (by omega)) (.inr trivial)
   have HX:Hid (∀w',Mv S g W w' (st.aw .B0)->w'.frozen? ⟨b,r.length*3+2,none⟩=false/\w'.cell? ⟨b,r.length*3+2,none⟩=some (.bool n.s)/\Mv S g W (w'.setCell ⟨b,r.length*3+2,none⟩ (.bool true)) st.exprIn):=fun w' m=>by
    have hcc:=m.2.2.trans hc;obtain ⟨S1,t1,u1⟩:=Mv.seq m;obtain ⟨x1,x2⟩:=SS.nd t1 (n:=⟨n.k,n.b,n.s⟩) (m:=⟨n.k,n.b,true⟩) en hcc 2 (.bool true) (by omega) rfl;refine ⟨x1,(t1.cells2 en hcc).2.2,?_⟩;rw [e9];exact u1 _ _ x2
   have q2:(n.k == 31)=true:=by simpa using h31.1
   rw [h31.2] at a2;clear h hz hns e9 en h19 h31
   go_enter Vm,U9
   go_wp2_with (go_at_call 161;refine HF.out.mono ?_;rintro r1 w1 ⟨rfl,m1⟩;obtain ⟨x1,x2,x3⟩:=HX.out _ m1;have HY:=show Hid (Mv S g W (w1.setCell ⟨b,r.length*3+2,none⟩ (.bool true)) st.exprIn) from x3;clear x3 m1)
   go_end0
   exact ⟨rfl,HY.out⟩
  ·have e9:st.exprIn={ st with ns:=⟨n.k,n.b,true⟩ :: r }:=by unfold Sy.exprIn;rw [e];simp only;rw [Eq h19,Eq h31,Eq h19]
   obtain ⟨x1,x2⟩:=SS.nd h (n:=n) (m:=⟨n.k,n.b,true⟩) e hc 2 (.bool true) (by omega) rfl;rw [<-e9] at x2;have HY:=show Hid (Mv S g W (W.setCell ⟨b,r.length*3+2,none⟩ (.bool true)) st.exprIn) from x2
   clear x2 e9 h hz hns
   by_cases h31':n.k=31
   ·have q2:(n.k == 31)=true:=by simpa using h31'
    have hs:n.s=true:=by cases hq:n.s with|true=>rfl|false=>exact absurd ⟨h31',hq⟩ h31
    rw [hs] at a2;clear h31 h31' h19 hs
    go_enter Vm,U9
    go_wp2_with fail
    go_end0
    exact ⟨rfl,HY.out⟩
   ·have q2:(n.k == 31)=false:=by simpa using h31'
    clear h31 h31' h19
    go_enter Vm,U9
    go_wp2_with fail
    go_end0
    exact ⟨rfl,HY.out⟩
def Mw (S:Nat->Prop) (g:Nat) (W W':World) (st:Sy):Prop:=(∃S',SS S' W' g st/\∀k,S' k->S k\/W.heap.size<=k)/\Kp S W W'
theorem Mv.w {S:Nat->Prop}{W:World}(h:Mv S g W W' st):Mw S g W W' st:=⟨h.1,h.2.1⟩
theorem Mw.mk' {S:Nat->Prop}{W W':World}{g:Nat}{st:Sy}{vn vw:Value}(hv:SV W' g st vn vw) (hs:S g) (h1:∀k,vn.ownBlock=some k->S k\/W.heap.size<=k) (h2:∀k,vw.ownBlock=some k->S k\/W.heap.size<=k) (hk:Kp S W W'):Mw S g W W' st:=
 ⟨⟨fun k=>(S k\/W.heap.size<=k)/\k<W'.heap.size,⟨⟨vn,vw,hv,fun k e=>⟨h1 k e,gX hv.rn k e⟩,fun k e=>⟨h2 k e,gX hv.rd k e⟩⟩,⟨.inl hs,hv.sb.lt⟩,fun _ h=>h.2⟩,fun _ h=>h.1⟩,hk⟩
theorem Mw.seq {S:Nat->Prop}{W:World}(h:Mw S g W W1 st):∃S1,SS S1 W1 g st/\∀W2 st2,Mw S1 g W1 W2 st2->Mw S g W W2 st2:=by
 obtain ⟨⟨S1,s1,s2⟩,hk⟩:=h;refine ⟨S1,s1,?_⟩;rintro W2 st2 ⟨⟨S2,t1,t2⟩,hk2⟩;refine ⟨⟨S2,t1,fun k hk'=>?_⟩,hk.step hk2 (fun k hlt hs=>?_)⟩
 ·rcases t2 k hk' with a|a
  ·exact s2 k a
  ·exact .inr (QQ hk.size a)
 ·rcases s2 k hs with a|a
  ·exact a
  ·omega
theorem Tryz.info208:(Tryz.prog.info? 208).map (fun i=>(i.zero,i.size,i.bytes))=some (some (.agg #[.int .u8 0,.int .i64 0,.bool false]),3,24):=by kernel_rfl
theorem OY {W:World}{ops:Array Oper}{rest:List Oper}{Q:Exit->Act->World->Prop}(hgd:o.guard=none) (s x:Operand)
  (ho:o.op=.call { callee:=.builtin .append,args:=#[s,x],argTypes:=#[145,145] }) (v:Value) (l:List Nd) (d:Nd) (hs:a.eval s=v) (hr:Rn tN W v l)
  (g c:Nat) (hx:a.eval x=.slice (some ⟨g,0,none⟩) 1 c) (hg:W.heap[g]?=some (.cells #[.int .u8 d.k,.int .i64 d.b,.bool d.s] 208 (0,0))) (hl:l.length<=1000000000)
  (h:∀v' w',Rn tN w' v' (d :: l)->W.grownBy w' v.ownBlock->Nb W v v'->wpList Tryz.prog ops Q rest (a.put o.dst v') w'):wpList Tryz.prog ops Q (o :: rest) a W:=by
 obtain ⟨i0,hi,hz0,hz1,hz2⟩:=Sa Tryz.info208;refine RT (P:=Tryz.prog) (w:=W) hgd s x 145 ho 0 208 i0 _ 3 24 Tryz.underlying145 hi hz0 hz1 hz2 rfl (by decide) v _ _ hs hr ⟨g,0,none⟩ 1 c (tU [d]) hx (by rw [nt];rfl) ?_ (Ja [d]) (by unfold maxLen;omega) (by omega) (QK _) ?_
 ·intro j u hu;refine RW hg j u ?_;have e:tU [d]=[.int .u8 d.k,.int .i64 d.b,.bool d.s]:=by simp [tU,bz,Nd.cs]
  rw [e] at hu
  simpa using hu
 ·intro v' w' h1 h2 _ h4;refine h v' w' ?_ h2 ?_
  ·unfold Rn;rw [SH,nu,List.length_cons];exact h1
  ·rcases h4 with h4|h4
   ·exact .inl h4
   ·exact .inr ⟨_,h4,gt _⟩
theorem SV.push {S:Nat->Prop}{W w3:World}{vn vw v':Value}{d:Nd}(h:SV W g st vn vw) (hs:S g) (h1:∀k,vn.ownBlock=some k->S k) (h2:∀k,vw.ownBlock=some k->S k) (hb:Below W.heap.size W W1) (hg:W1.grownBy w3 vn.ownBlock) (hr:Rn tN w3 v' (d :: st.ns)) (hn:Nb W1 vn v') :
  (w3.cell? ⟨g,1,none⟩=some vn/\w3.frozen? ⟨g,1,none⟩=false)/\Mw S g W (w3.setCell ⟨g,1,none⟩ v') { st with ns:=d :: st.ns }:=by
 have k1:=h.below hb;have hk:=(Kp.of_grown hg).sub (S:=fun k=>vn.ownBlock=some k) (fun k e=>e.symm);have hne:¬vn.ownBlock=some g:=aM k1.rn k1.sb (by decide);have h3:=k1.sb.kp hk hne;have d3:=hk.row k1.rd (fun k e1 e2=>ko k1.rd k1.rn (by decide) k e1 e2);refine ⟨⟨af h3 rfl,h3.frozen 1⟩,Mw.mk' (vn:=v') (vw:=vw) ⟨aj h3 1 _,(Kp.set _ _ _ _).row hr (fun k e1 e2=>aM hr h3 (by decide) (by rw [e1,e2])),(Kp.set _ _ _ _).row d3 (fun k e1 e2=>aM d3 h3 (by decide) (by rw [e1,e2]))⟩ hs (fun k e=>?_) (fun k e=>.inl (h2 k e)) (((Kp.of_below hb).step hk (fun k _ e=>h1 k e)).step (Kp.set _ _ _ _) (fun k _ e=>by rw [e];exact hs))⟩
 rcases hn with hn|⟨q,hq,hq2⟩
 ·exact .inl (h1 k (by rw [<-hn];exact e))
 ·rw [hq] at e;cases e;exact .inr (QQ hb.size hq2)
theorem SS.mark {S:Nat->Prop}{W:World}(h:SS S W g st) (n:Nat) :
  Mv S g W ((W.setCell ⟨g,3,none⟩ (.bool true)).setCell ⟨g,4,none⟩ (.int .i64 n)) { st with mr:=some n }:=by
 obtain ⟨vn,vw,hv,s1,s2⟩:=h.ex;have hk:Kp (fun k=>k=g) W ((W.setCell ⟨g,3,none⟩ (.bool true)).setCell ⟨g,4,none⟩ (.int .i64 n)):=(Kp.set W g 3 _).trans (Kp.set _ g 4 _);exact Mv.mk' ⟨aj (aj hv.sb 3 _) 4 _,hk.row hv.rn (fun k e1 e2=>aM hv.rn hv.sb (by decide) (by rw [e1,e2])),hk.row hv.rd (fun k e1 e2=>aM hv.rd hv.sb (by decide) (by rw [e1,e2]))⟩ h.sg (fun k e=>.inl (s1 k e)) (fun k e=>.inl (s2 k e)) (hk.sub (fun k e=>by rw [e];exact h.sg)) hv.sb.cells.2.1
theorem Mv.after {S:Nat->Prop}{W:World}{st':Sy}(h:SS S W g st) (hb:Below W.heap.size W V) (m:Mv S g V W' st'):Mv S g W W' st':=by
 obtain ⟨⟨S1,a1,a2⟩,hk,hc⟩:=m;exact ⟨⟨S1,a1,fun k hk'=>(a2 k hk').imp id (fun e=>QQ hb.size e)⟩,(Kp.of_below hb).step hk (fun _ _ h=>h),hc.trans (hb.cell (h.lt g h.sg))⟩
theorem Bz.exprIn (h:Bz n st):Bz (n+2) st.exprIn:=by
 obtain ⟨h1,h2,h3⟩:=h;unfold Sy.exprIn
 split
 ·exact ⟨by omega,by omega,fun x hx=>by have:=h3 x hx;omega⟩
 ·rename_i m r e
  rw [e] at h2 h3;have hm:=h3 m QN;refine ⟨?_,?_,?_⟩
  ·show (if m.k=19 then st.aws [.S,.I 3] else if m.k=31/\m.s=false then st.aws [.B0] else st).ws.length<=n+2
   split
   ·have a1:=gz .S st.ns;have a2:=gz (.I 3) (ia .S st.ns);show (st.ws++jB .S st.ns++jB (.I 3) (ia .S st.ns)).length<=_;rw [Or,Or];omega
   ·split
    ·have a1:=gz .B0 st.ns;show (st.ws++jB .B0 st.ns).length<=_;rw [Or];omega
    ·omega
  ·show ((⟨m.k,_,true⟩:Nd) :: r).length<=n+2
   simp at h2 ⊢;omega
  ·intro x hx;have hx':x∈(⟨m.k,(if m.k=19 then m.b+1 else m.b),true⟩:Nd) :: r:=hx
   rcases Rg.1 hx' with rfl|hx'
   ·show (if m.k=19 then m.b+1 else m.b)<=n+2
    split <;> omega
   ·have:=h3 x (QO _ hx');omega
theorem Bz.mark (h:Bz n st) (k:Int):Bz n (st.mark k):=by unfold Sy.mark;split;exact h;exact h
theorem Ea {S:Nat->Prop}{W:World}(h:SS S W g st) (hz:Bz 900000000 st) (k:Int) :
  Ra 74 #[bV g,.int .u8 k] W fun rr w'=>rr=.returned (.tuple #[])/\Mw S g W w' (st.opens k):=by
 obtain ⟨s1,hs1⟩:∃s1,(if k=21 then st.exprIn else st)=s1:=⟨_,rfl⟩;have hz1:Bz 900000002 s1:=by rw [<-hs1];split;exact hz.exprIn;exact hz.mono (by omega)
 obtain ⟨s2,hs2⟩:∃s2,s1.mark k=s2:=⟨_,rfl⟩;have hz2:Bz 900000002 s2:=by rw [<-hs2];exact hz1.mark k
 have e9:st.opens k=Sy.aws { s2 with ns:=⟨k,0,false⟩ :: s2.ns } (qm k):=by unfold Sy.opens;simp only;rw [hs1,hs2]
 rw [e9]
 have hcell:∃p n c,W.cell? ⟨g,1,none⟩=some (.slice p n c)/\n=st.ns.length:=by
  obtain ⟨vn,vw,hv,_⟩:=h.ex;obtain ⟨p,c,e,_⟩:=aJ hv.rn;exact ⟨p,_,c,by rw [<-e];exact hv.sb.cells.2.1,rfl⟩
 obtain ⟨pp,nn,cc,hc1,hnn⟩:=hcell
 have HA:Hid (∀n r,st.ns=n :: r->k=21->∃b cap,pp=some ⟨b,0,none⟩/\cc=cap/\nn=r.length+1/\Ra 117 #[bV g] W (fun rr w'=>rr=.returned (.pointer (some ⟨b,r.length*3,none⟩))/\Rc W w')/\∀V,Rc W V->Ra 120 #[bV g,.pointer (some ⟨b,r.length*3,none⟩)] V fun rr w'=>rr=.returned (.tuple #[])/\Mv S g W w' s1):=fun n r e hk=>by
  obtain ⟨b,cap,a1,_⟩:=h.nodes e;rw [hc1] at a1;cases a1;refine ⟨b,cc,rfl,rfl,rfl,fQ hc1 (by have:=hz.2.1;rw [e] at this;simp at this;omega),fun V hb=>?_⟩;refine (oV (h.below hb) (hz.mono (by omega)) e ((hb.cell (h.lt g h.sg)).trans hc1)).mono ?_;rintro rr w' ⟨rfl,m⟩;refine ⟨rfl,?_⟩;rw [<-hs1,IO hk];exact m.after h hb
 have HQ:Hid (¬(k=21/\st.ns≠[])->Mv S g W W s1):=fun hn=>by
  rw [<-hs1]
  by_cases hk:k=21
  ·rw [IO hk];have:st.ns=[]:=Rv fun hne=>hn ⟨hk,hne⟩
   have e8:st.exprIn=st:=by unfold Sy.exprIn;rw [this]
   rw [e8];exact Mv.refl h
  ·rw [Eq hk];exact Mv.refl h
 have HH:Hid (∀V,Ra 121 #[.int .u8 k] V fun e w'=>e=.returned (.bool (fi k))/\w'=V):=BG k;have HZ:Hid (Bz 900000002 s1/\Bz 900000002 s2/\s1.mark k=s2):=⟨hz1,hz2,hs2⟩;have hl:(∃n r,st.ns=n :: r)\/st.ns=[]:=by cases st.ns with|nil=>exact .inr rfl|cons n r=>exact .inl ⟨n,r,rfl⟩
 clear h hz hs1 hz1 hs2 hz2 e9
 go_enter Tryz.func74,Tryz.ntmps74
 obtain ⟨b1,hb1⟩:∃b1:Bool,decide (k=21/\st.ns≠[])=b1:=⟨_,rfl⟩
 go_upto_region 0 with fail
 go_cut [13] from 4 to 13 (fun t wx=>t=.bool b1/\wx=W)
 case first=>
  have HX:Hid (decide (k=21/\st.ns≠[])=b1):=hb1;clear hb1
  rcases hl with ⟨n,r,e⟩|e
  ·have q1:(0:Int)<(nn:Int):=by rw [hnn,e];simp
   by_cases hk:k=21
   ·have HY:Hid (true=b1):=by rw [<-HX.out,QW ⟨hk,by rw [e];simp⟩];exact rfl
    subst hk;clear HX hnn e
    go_wp2_with fail
    go_meet
    exact ⟨by rw [HY.out],rfl⟩
   ·have HY:Hid (false=b1):=by rw [<-HX.out,QX (fun h=>hk h.1)];exact rfl
    have q2:(k == 21)=false:=by simpa using hk
    clear HX hnn e hk
    go_wp2_with fail
    go_meet
    exact ⟨by rw [HY.out],rfl⟩
  ·have HY:Hid (false=b1):=by rw [<-HX.out,QX (fun h=>h.2 e)];exact rfl
   obtain rfl:nn=0:=by rw [hnn,e];rfl
   clear HX hnn e
   go_wp2_with fail
   go_meet
   exact ⟨by rw [HY.out],rfl⟩
 case rest=>
 obtain ⟨rfl,hwc⟩:=hcut;replace hwc:=hwc.symm;subst hwc
 go_upto_if 13 with fail
 go_cut [] from 14 to 17 (fun wx=>Hid (Mv S g W wx s1))
 case first=>
  cases b1 with
  |true=>
   have hd:=Rm hb1
   rcases hl with ⟨n,r,e⟩|e
   ·obtain ⟨b,cap,rfl,rfl,rfl,a4,a5⟩:=HA.out n r e hd.1;have HI:=show Hid (Ra 117 #[bV g] W (fun rr w'=>rr=.returned (.pointer (some ⟨b,r.length*3,none⟩))/\Below W.heap.size W w')) from a4
    have HO:=show Hid (∀V,Below W.heap.size W V->Ra 120 #[bV g,.pointer (some ⟨b,r.length*3,none⟩)] V fun rr w'=>rr=.returned (.tuple #[])/\Mv S g W w' s1) from a5
    clear a4 a5 HA HQ hnn e hb1 hd
    go_wp2_with (first|(go_at_call 117;refine HI.out.mono ?_;rintro r1 w1 ⟨rfl,hb1⟩;have HB:=show Hid (Below W.heap.size W w1) from hb1;clear hb1)|(go_at_call 120;refine (HO.out _ HB.out).mono ?_;rintro r2 w2 ⟨rfl,m2⟩;have HM:=show Hid (Mv S g W w2 s1) from m2;clear m2))
    go_meet
    exact HM
   ·exact absurd e hd.2
  |false=>
   have HM:Hid (Mv S g W W s1):=HQ.out (T2 hb1);clear HA HQ hnn hb1 hl
   go_wp2_with fail
   go_meet
   exact HM
 case rest=>
  obtain ⟨S1,t1,u1⟩:=Mw.seq hcut.out.w;obtain ⟨w1,hw1⟩:∃w1,w1=wc:=⟨wc,rfl⟩;subst hw1;have HT1:=show Hid (SS S1 w1 g s1/\∀W2 st2,Mw S1 g w1 W2 st2->Mw S g W W2 st2) from ⟨t1,u1⟩
  obtain ⟨vn,vw,hv,v1,v2⟩:=t1.ex;obtain ⟨c0,c1,c2,c3,c4,c5,c6,c7⟩:=hv.sb.cells;have f3:=hv.sb.frozen 3;have f4:=hv.sb.frozen 4;obtain ⟨pw,cw,evw,_⟩:=bB hv.rd;subst evw
  have HMk:Hid (fi k=true/\s1.mr=none->Mv S1 g w1 ((w1.setCell ⟨g,3,none⟩ (.bool true)).setCell ⟨g,4,none⟩ (.int .i64 s1.ws.length)) s2):=fun hd=>by
   have:=t1.mark s1.ws.length;have e8:s2={ s1 with mr:=some s1.ws.length }:=by rw [<-HZ.out.2.2];unfold Sy.mark;rw [IO hd]
   rw [e8];exact this
  have HMn:Hid (¬(fi k=true/\s1.mr=none)->Mv S1 g w1 w1 s2):=fun hd=>by
   have e8:s2=s1:=by rw [<-HZ.out.2.2];unfold Sy.mark;rw [Eq hd]
   rw [e8];exact Mv.refl t1
  clear t1 u1 hcut HA HQ hb1 hl hnn hc1 v1 v2 hv c0 c1 c5 c6 c7;obtain ⟨b2,hb2⟩:∃b2:Bool,decide (fi k=true/\s1.mr=none)=b2:=⟨_,rfl⟩
  go_upto_region 2 with fail
  go_cut [26] from 18 to 26 (fun t wx=>t=.bool b2/\wx=w1)
  case first=>
   have HX:Hid (decide (fi k=true/\s1.mr=none)=b2):=hb2;clear hb2;cases hh:fi k with
   |false=>
    have HY:Hid (false=b2):=by rw [<-HX.out,QX (fun h=>by rw [hh] at h;cases h.1)];exact rfl
    rw [hh] at HH;clear HX HMk HMn hh
    go_wp2_with (go_at_call 121;refine (HH.out _).mono ?_;rintro r1 w2 ⟨rfl,rfl⟩)
    go_meet
    exact ⟨by rw [HY.out],rfl⟩
   |true=>
    rw [hh] at HH;cases hm:s1.mr with
    |none=>
     have HY:Hid (true=b2):=by rw [<-HX.out,QW ⟨hh,hm⟩];exact rfl
     rw [hm] at c3;clear HX HMk HMn hh hm
     go_wp2_with (go_at_call 121;refine (HH.out _).mono ?_;rintro r1 w2 ⟨rfl,rfl⟩)
     go_meet
     exact ⟨by rw [HY.out],rfl⟩
    |some q=>
     have HY:Hid (false=b2):=by rw [<-HX.out,QX (fun h=>by rw [hm] at h;cases h.2)];exact rfl
     rw [hm] at c3;clear HX HMk HMn hh hm
     go_wp2_with (go_at_call 121;refine (HH.out _).mono ?_;rintro r1 w2 ⟨rfl,rfl⟩)
     go_meet
     exact ⟨by rw [HY.out],rfl⟩
  case rest=>
  obtain ⟨rfl,hwc⟩:=hcut;replace hwc:=hwc.symm;subst hwc
  go_upto_if 26 with fail
  go_cut [] from 27 to 37 (fun wx=>Hid (Mv S1 g w1 wx s2))
  case first=>
   cases b2 with
   |true=>
    have HM:=show Hid (Mv S1 g w1 ((w1.setCell ⟨g,3,none⟩ (.bool true)).setCell ⟨g,4,none⟩ (.int .i64 s1.ws.length)) s2) from HMk.out (Rm hb2)
    clear HMk HMn hb2
    go_wp2_with fail
    go_meet
    exact HM
   |false=>
    have HM:=show Hid (Mv S1 g w1 w1 s2) from HMn.out (T2 hb2)
    clear HMk HMn hb2
    go_wp2_with fail
    go_meet
    exact HM
  case rest=>
   obtain ⟨S2,t2,u2⟩:=Mw.seq hcut.out.w;obtain ⟨w2,hw2⟩:∃w2,w2=wc:=⟨wc,rfl⟩;subst hw2;obtain ⟨vn,vw,hv,v1,v2⟩:=t2.ex;obtain ⟨c0,c1,c2,c3,c4,c5,c6,c7⟩:=hv.sb.cells;have hg2:=hv.sb.lt;obtain ⟨pn,cn,evn,_⟩:=aJ hv.rn;subst evn;have hln:=HZ.out.2.1.2.1;have HR:Hid (Rn tN (w2.alloc (.cells #[.int .u8 k,.int .i64 0,.bool false] 208)) (.slice pn s2.ns.length cn) s2.ns):=bp hv.rn ((hH _ _).alloc (gt _) _)
   have HP:Hid (∀v' w3,Rn tN w3 v' (⟨k,0,false⟩ :: s2.ns)->(w2.alloc (.cells #[.int .u8 k,.int .i64 0,.bool false] 208)).grownBy w3 (Value.slice pn s2.ns.length cn).ownBlock->Nb (w2.alloc (.cells #[.int .u8 k,.int .i64 0,.bool false] 208)) (.slice pn s2.ns.length cn) v'->(w3.cell? ⟨g,1,none⟩=some (.slice pn s2.ns.length cn)/\w3.frozen? ⟨g,1,none⟩=false)/\Mw S g W (w3.setCell ⟨g,1,none⟩ v') { s2 with ns:=⟨k,0,false⟩ :: s2.ns }):=fun v' w3 a1 a2 a3=>by
    obtain ⟨b1,b2⟩:=hv.push t2.sg v1 v2 ((hH _ _).alloc (gt _) _) a2 a1 a3;exact ⟨b1,HT1.out.2 _ _ (u2 _ _ b2)⟩
   have HB:Hid (∀V,Mw S g W V { s2 with ns:=⟨k,0,false⟩ :: s2.ns }->∀(i:Int) (p:Pz),p.d=dI i false/\p.n=1->Ra 122 #[bV g,.int .i64 i,.bool false] V fun rr w'=>rr=.returned (.tuple #[])/\Mw S g W w' (Sy.aw { s2 with ns:=⟨k,0,false⟩ :: s2.ns } p)):=fun V hV i p hp=>by
    obtain ⟨S3,t3,u3⟩:=Mw.seq hV;have z:=HZ.out.2.1
    refine (eI t3 p hp (by simp) (by have:=z.1;show s2.ws.length<=_;omega) (by have:=z.2.1;show ((⟨k,0,false⟩:Nd) :: s2.ns).length<=_;simp;omega) (fun n hn=>by
     rcases Rg.1 hn with rfl|hn
     ·simp
     ·have:=z.2.2 n hn;omega)).mono ?_
    rintro rr w' ⟨rfl,m⟩;exact ⟨rfl,u3 _ _ m.w⟩
   clear t2 u2 hcut HMk HMn hb2 hv v1 v2 c0 c2 c3 c4 c5 c6 c7 f3 f4 HT1 HZ HH
   go_upto_region 5 with (at_builtin;refine OY rfl _ _ rfl (.slice pn s2.ns.length cn) s2.ns ⟨k,0,false⟩ rfl HR.out w2.heap.size 1 rfl (au w2 _) (by omega) ?_;intro v' w3 a1 a2 a3;obtain ⟨p3,c3,ev,_⟩:=aJ a1;obtain ⟨⟨x1,x2⟩,x3⟩:=HP.out v' w3 a1 a2 a3;subst ev;have HM:=show Hid (Mw S g W (w3.setCell ⟨g,1,none⟩ (.slice p3 (s2.ns.length+1) c3)) { s2 with ns:=⟨k,0,false⟩ :: s2.ns }) from x3;clear x3 a1 a2 a3)
   clear HR HP
   by_cases k1:k=21\/k=22\/k=23\/k=24
   ·have HE8:Hid (qm k=[.I 0]):=by show _=_;unfold qm;rw [IO k1]
    have HB0:=show Hid (Ra 122 #[bV g,.int .i64 0,.bool false] (w3.setCell ⟨g,1,none⟩ (.slice p3 (s2.ns.length+1) c3)) fun rr w'=>rr=.returned (.tuple #[])/\Mw S g W w' (Sy.aw { s2 with ns:=⟨k,0,false⟩ :: s2.ns } (.I 0))) from HB.out _ HM.out 0 (.I 0) ⟨rfl,rfl⟩
    clear HB HM
    rcases k1 with rfl|rfl|rfl|rfl
    all_goals (
     go_wp2_with (go_at_call 122;refine HB0.out.mono ?_;rintro r4 w4 ⟨rfl,m4⟩;have HE:=ai m4;clear m4)
     go_end0
     exact ⟨rfl,by rw [HE8.out];exact HE.out⟩)
   ·by_cases k2:k=14\/k=7\/k=11
    ·have HE8:Hid (qm k=[.I 2]):=by show _=_;unfold qm;rw [Eq k1,IO k2]
     have HB0:=show Hid (Ra 122 #[bV g,.int .i64 2,.bool false] (w3.setCell ⟨g,1,none⟩ (.slice p3 (s2.ns.length+1) c3)) fun rr w'=>rr=.returned (.tuple #[])/\Mw S g W w' (Sy.aw { s2 with ns:=⟨k,0,false⟩ :: s2.ns } (.I 2))) from HB.out _ HM.out 2 (.I 2) ⟨rfl,rfl⟩
     clear HB HM k1
     rcases k2 with rfl|rfl|rfl
     all_goals (
      go_wp2_with (go_at_call 122;refine HB0.out.mono ?_;rintro r4 w4 ⟨rfl,m4⟩;have HE:=ai m4;clear m4)
      go_end0
      exact ⟨rfl,by rw [HE8.out];exact HE.out⟩)
    ·have HE8:Hid (qm k=[]):=by show _=_;unfold qm;rw [Eq k1,Eq k2]
     simp only [not_or] at k1 k2;have q1:(k == 21)=false:=by simpa using k1.1
     have q2:(k == 22)=false:=by simpa using k1.2.1
     have q3:(k == 23)=false:=by simpa using k1.2.2.1
     have q4:(k == 24)=false:=by simpa using k1.2.2.2
     have q5:(k == 14)=false:=by simpa using k2.1
     have q6:(k == 7)=false:=by simpa using k2.2.1
     have q7:(k == 11)=false:=by simpa using k2.2.2
     clear HB k1 k2
     go_wp2_with fail
     go_end0
     exact ⟨rfl,by rw [HE8.out];exact HM.out⟩
end Go.Proofs.YtjiepkenkcgkhaaGreatDoor
