import Derived.Deep.CutRange
import Derived.Test.YtcmbkeghnmgbfaaGreatDoorM27
set_option linter.all false
set_option maxHeartbeats 4000000
namespace Go.Proofs.YtcmbkeghnmgbfaaGreatDoor
open Go.Proofs.Tryz
open Go.RowKit
open Lw (Dc bE rt cH cY iA me bD aQ bO)
variable {W' w' V W1:World}{st:Sy}{g n:Nat}{v:Value}{o:Oper}{a:Act}
theorem pf {B:Nat}{w W:World}(h:Below B w W) (m:Nat):Below B w (W.drewN m):=⟨by rw[World.drewN];exact h.os,by rw[World.drewN];exact h.tape,by rw[World.drewN];exact h.output,by rw[World.drewN];exact h.size,by rw[World.drewN];exact h.block⟩
theorem fO {S:Nat->Prop}{W:World}(h:SS S W g st) (hl:st.ws.length<=1000000000) (hm:∀m,st.mr=some m->m<=st.ws.length) (f:Int) :
  Kb 130 #[bv g,.int .i64 f] W fun r w'=>r=.returned (.tuple #[])/\Mv S g W w' (st.emp f):=by
 obtain⟨vn,vw,I,s1,s2⟩:=h.ex;have aa:=h.sg;obtain⟨p,cap,e,hc1,hc2⟩:=bG I.rd;subst e;obtain⟨c0,c1,c2,c3,c4,c5,c6,c7⟩:=I.sb.cells;have ab:=I.sb.lt;have quiet:st.emp f=st->∀V,Below W.heap.size W V->Mv S g W V (st.emp f):=fun e V F=>by rw[e];exact Mv.quiet h F
 cases u:st.mr with
 |none=>
  have H:=ku (quiet (by unfold Sy.emp;rw[u]));rw[u]at c3 c4;clear quiet h I s1 s2;have HB:Hid (∀m,Kc W (W.drewN m)):=fun m=>pf (gt _ _) m
  go_enter func130,ntmps130
  go_wp2_with fail
  go_quiet (fail)
  go_wp2_with fail
  refine Kv (v:=.tuple #[]) (by simp[results,Tryz.f130,go_sem]) rfl ?_;exact⟨rfl,H.out _ (HB.out _)⟩
 |some m=>
  have O:=hm m u;rw[u]at c3 c4;simp only[Option.isSome_some,NS]at c3 c4;have HB:Hid (∀m,Kc W (W.drewN m)):=fun m=>pf (gt _ _) m
  by_cases hf:f<2
  ·have H:=ku (quiet (by unfold Sy.emp;rw[u];simp only;rw[Kd (.inl hf)]));clear quiet h I s1 s2
   go_enter func130,ntmps130
   go_wp2_with fail
   go_quiet (fail)
   go_wp2_with fail
   refine Kv (v:=.tuple #[]) (by simp[results,Tryz.f130,go_sem]) rfl ?_;exact⟨rfl,H.out _ (HB.out _)⟩
  ·have qf:decide (f<2)=false:=Kr hf;cases hw:st.wr with
   |false=>
    have H:=ku (quiet (by unfold Sy.emp;rw[u];simp only;rw[Kd (.inr (.inl hw))]));rw[hw]at c5;clear quiet h I s1 s2 c0 c1 c6 c7 hm u O hw hl aa hc1 hc2
    go_enter func130,ntmps130
    go_wp2_with fail
    go_quiet (fail)
    go_wp2_with fail
    refine Kv (v:=.tuple #[]) (by simp[results,Tryz.f130,go_sem]) rfl ?_;exact⟨rfl,H.out _ (HB.out _)⟩
   |true=>
    rw[hw]at c5
    have HK:Hid (∀V,Kc W V->(V.cell? ⟨g,3,none⟩=some (.bool true)/\V.cell? ⟨g,5,none⟩=some (.bool true)/\V.cell? ⟨g,2,none⟩=some (.slice p st.ws.length cap)/\V.cell? ⟨g,4,none⟩=some (.int .i64 m)/\Kc W V)):=fun V F=>by
     have J:=ab;exact⟨(F.cell J).trans c3,(F.cell J).trans c5,(F.cell J).trans c2,(F.cell J).trans c4,F⟩
    have HC:Hid (∀V,Kc W V->Kb 159 #[.slice p m cap,.func (.func 171) #[] #[]] V fun r w'=>r=.returned (.bool ((st.ws.take m).any bC))/\Kc V w'):=fun V F=>by
     have af:(st.ws.take m).length=m:=by rw[Kz];omega
     have:=B9 p (st.ws.take m) cap V ((qp (I.below F).rd).take m) (by omega);rw[af]at this;exact this
    have q5:(0:Int)<=(m:Int):=by omega
    have q6:(m:Int)<=(cap:Int):=by omega
    have H:Hid ((st.ws.take m).any bC=true->∀V,Kc W V->Mv S g W V (st.emp f)):=fun ha=>quiet (by unfold Sy.emp;rw[u];simp only;rw[Kd (.inr (.inr ha))])
    have HI:Hid ((st.ws.take m).any bC=false->∀V,Kc W V->Kb 118 #[.slice p st.ws.length cap,.int .i64 m,.slice (some ⟨V.heap.size,0,none⟩) 1 1] (V.alloc (.cells #[.int .u8 5,.string ⟨#[]⟩,.int .i64 0,.int .i64 0,.bool false] 151)) fun r w'=>∃p' n' c',r=.returned (.slice p' n' c')/\(w'.cell? ⟨g,2,none⟩=some (.slice p st.ws.length cap)/\w'.frozen? ⟨g,2,none⟩=false)/\Mv S g W (w'.setCell ⟨g,2,none⟩ (.slice p' n' c')) (st.emp f)):=fun ha V F=>by
     have e9:st.emp f={ st with ws:=st.ws.take m++dE :: st.ws.drop m }:=by
      unfold Sy.emp;rw[u];simp only;rw[IO (by rintro(a|a|a);exact hf a;rw[hw]at a;cases a;rw[ha]at a;cases a)]
     rw[e9];exact rk I aa s1 s2 hl dE (i:=m) O F
    generalize(st.ws.take m).any bC=bg at *
    generalize st.ws.length=n0 at *
    clear quiet h I s1 s2 c0 c1 c6 c7 hm u hw aa hc2 c2 c3 c4 c5 hl O hc1
    go_enter func130,ntmps130
    go_wp2_with fail
    go_region_held3 (fun w'=>w'.cell? ⟨g,3,none⟩=some (.bool true)/\w'.cell? ⟨g,5,none⟩=some (.bool true)/\w'.cell? ⟨g,2,none⟩=some (.slice p n0 cap)/\w'.cell? ⟨g,4,none⟩=some (.int .i64 m)/\Below W.heap.size W w') (first|(exact HK.out _ (by assumption))|(exact HK.out _ (gt _ _).drew)|go_keep) (first|(go_at_call 159;refine(HC.out _ (by first|assumption|exact(gt _ _).drew)).mono ?_;rintro e w1⟨rfl,M⟩;have G:=(by first|exact(gt W.heap.size W).drew.trans (M.mono (ge _))|exact(by assumption:Below W.heap.size W _).trans (M.mono (Below.size (by assumption))):Below W.heap.size W w1);clear M))
    all_goals(
     have ac:=ku G;cases bg with
     |true=>
      have ae:=ku (H.out rfl _ G);clear H HI
      go_wp2_with fail
      refine Kv (v:=.tuple #[]) (by simp[results,Tryz.f130,go_sem]) rfl ?_;exact⟨rfl,ae.out⟩
     |false=>
      obtain⟨x1,x2,x3,x4,_⟩:=HK.out _ G;have ah:g<w1.heap.size:=Kl ab G.size;have ag:=ku G.drew;have ad:=ku fun V (F:Kc W V)=>HI.out rfl V.drew F.drew
      clear G H HI
      go_wp2_with fail
      go_region_law (first|(go_simp;go_at_call 118;refine(ad.out w1 ac.out).mono ?_;rintro r w3⟨p3,n3,c3,rfl,⟨y2,y3⟩,y4⟩;have HX:=ku y4;clear y4))
      all_goals(
       go_wp2_with fail
       go_end0
       exact⟨rfl,HX.out⟩))
structure HW (S:World->Prop) where
 W:World
 h:S W
theorem cA {P:Program}{S:World->Prop}{id:Nat}{Q:Exit->Act->World->Prop}{a:Act}{w:World}{l:List Oper}(H:P.follows .mixedOrders=true) (F:Region.lexB .any l.toArray=true) (G:S w.drew)
  (h:wpQuiet P l.toArray (fun w'=>∃x:HW S,w'=x.W) (fun u=>∀w',(∃x:HW S,w'=x.W)->Q .normal u w') l a):(Code.region id l.toArray true).wp P Q a w:=
 wp_region_quiet (C:=fun w'=>∃x:HW S,w'=x.W) H F ⟨⟨w.drew,G⟩,rfl⟩ (by simpa using h)
theorem Calls.quiet_in {P:Program}{S:World->Prop}{f:FuncId}{args:Array Value}(x:HW S) (h:Calls P f args x.W fun e w'=>e=.returned v/\Below x.W.heap.size x.W w') (u:∀W W',S W->Below W.heap.size W W'->S W') :
  Calls P f args x.W fun e w''=>e=.returned v/\∃y:HW S,w''=y.W:=
 h.mono fun e w' ⟨G,F⟩=>⟨G,⟨w',u _ _ x.h F⟩,rfl⟩
theorem bP {w:World}{p:Addr}(h:w.cell? p=some v) (u:Below w.heap.size w w'):w'.cell? p=some v:=(u.cell (Kg w p h)).trans h
def SG (V W:World):Prop:=Below V.heap.size V W
theorem SG.keep {W:World}(h:SG V W) (u:Below W.heap.size W W'):SG V W':=Below.trans h (u.mono (Below.size h))
theorem G1 (n:Nd) (k:Int) (W:World):Kb 231 #[.agg #[.int .u8 n.k,.int .i64 n.b,.bool n.s],.int .u8 k] W fun e w'=>e=.returned (.bool (n.is k))/\Kc W w':=by
 have G:Hid (∀o,Kc W (W.alloc o)):=fun o=>(gt _ _).alloc (ge _) _
 by_cases u:k=33
 ·subst u
  have F:Hid (n.is 33=(n.k==5&&(n.b:Int)==0)):=by
   show _=_
   unfold Nd.is;rw[Kd rfl]
   by_cases a:n.k=5<;>by_cases b:n.b=0<;>simp[a,b]
  go_enter func231,ntmps231
  go_wp2_with fail
  all_goals(go_ret;rw[F.out];refine⟨?_,G.out _⟩;simp_all)
 ·have q:(k==33)=false:=by simpa using u
  have F:Hid (n.is k=(n.k==k)):=by
   show _=_
   unfold Nd.is;rw[IO u]
   by_cases a:n.k=k<;>simp[a]
  clear u
  go_enter func231,ntmps231
  go_wp2_with fail
  go_ret
  rw[F.out];exact⟨rfl,G.out _⟩
def Lk (w:World) (b:Nat) (l:List Int):Prop:=∀j d,l[j]?=some d->w.cell? ⟨b,j,none⟩=some (.int .u8 d)
theorem Lk.below {w:World}{b:Nat}{l:List Int}(h:Lk w b l) (F:Below w.heap.size w w'):Lk w' b l:=fun j d u=>(F.cell (Kg _ _ (h j d u))).trans (h j d u)
theorem Ep (n:Nd) (b:Nat) (l:List Int) (cap:Nat) (W:World) (h:Lk W b l) (hl:l.length<=1000000000) :
  Kb 276 #[.slice (some ⟨b,0,none⟩) l.length cap,.func (.func 231) #[.agg #[.int .u8 n.k,.int .i64 n.b,.bool n.s]] #[]] W fun r w'=>(∃z:Int,r=.returned (.int .i64 z)/\(decide (0<=z)=l.any n.is))/\Kc W w':=by
 have H:=ku h;clear h;have HP:=ku (G1 n)
 go_enter func276,ntmps276
 go_wp2_with fail
 go_loopw [5,8] (fun _ i wr=>∃k:Nat,k<=l.length/\i=.int .i64 k/\Hid ((l.take k).any n.is=false)/\Hid (Kc W wr)) (fun _ i _=>l.length-(intOf i).toNat)
 case atStart=>exact⟨0,Kj _,rfl,by show _=_;simp,gt _ _⟩
 case round=>
  obtain⟨k,hk,rfl,HI,F⟩:=hrel
  by_cases I:k<l.length
  ·have q1:(k:Int)<l.length:=by omega
   have q0:(0:Int)<=k:=by omega
   obtain⟨x,M⟩:∃x,l[k]?=some x:=⟨_,Ke I⟩;have c0:=(H.out.below F.out) k x M;have HS:=ku (i8 n.is l k x M HI.out);have HT:Hid ((l.take (k+1)).any n.is=true->l.any n.is=true):=iZ n.is l _;clear M
   by_cases J:n.is x=true
   ·go_wp2_with(go_at_call 231;refine(HP.out x _).mono ?_;rintro e O⟨rfl,u⟩;rw[J];have HC:=ku (F.out.trans (u.mono F.out.size));clear u)
    go_ret
    exact⟨⟨_,rfl,by rw[HT.out (HS.out.trans J)];simp⟩,HC.out⟩
   ·have G:n.is x=false:=by simpa using J
    clear J
    go_wp2_with(go_at_call 231;refine(HP.out x _).mono ?_;rintro e O⟨rfl,u⟩;rw[G];have HC:=ku (F.out.trans (u.mono F.out.size));clear u)
    exact⟨⟨k+1,I,by go_num,HS.out.trans G,HC⟩,by simp[intOf];omega⟩
  ·obtain rfl:k=l.length:=by omega
   have q1:¬((l.length:Int)<l.length):=by omega
   go_wp2_with fail
   go_ret
   refine⟨⟨_,rfl,?_⟩,F.out⟩;have:=HI.out;rw[L6]at this;rw[this];rfl
theorem EW (n:Nd) (b:Nat) (l:List Int) (cap:Nat) (W:World) (h:Lk W b l) (hl:l.length<=1000000000) :
  Kb 230 #[.slice (some ⟨b,0,none⟩) l.length cap,.func (.func 231) #[.agg #[.int .u8 n.k,.int .i64 n.b,.bool n.s]] #[]] W fun r w'=>r=.returned (.bool (l.any n.is))/\Below W.heap.size W w':=by
 have H:=ku (Ep n b l cap W h hl);clear h
 generalize l.any n.is=bb at *
 go_enter func230,ntmps230
 go_wp2_with(go_at_call 276;refine H.out.mono ?_;rintro r I⟨⟨z,rfl,G⟩,u⟩;have F:=ku u;clear u;subst G)
 go_ret
 exact⟨by simp,F.out⟩
theorem yv (G H n2 I J M:Int) (t:ByteArray) (fa fb:Nat) (n:Nd) (tx:ByteArray) (W:World) :
  Kb 169 #[.agg #[.int .u8 G,.int .u8 H,.int .u8 n2,.int .u8 I,.int .u8 J,.int .u8 M,.string t,.func (.func fa) #[] #[],.func (.func fb) #[] #[]],.agg #[.int .u8 n.k,.int .i64 n.b,.bool n.s],.string tx] W fun e w'=>e=.returned (.bool ((t.toList==[]||t.toList==tx.toList)&&[G,H,n2,I,J,M].any n.is))/\Below W.heap.size W w':=by
 obtain⟨V,hV⟩:∃V,(W.alloc (.cells #[.int .u8 G,.int .u8 H,.int .u8 n2,.int .u8 I,.int .u8 J,.int .u8 M,.string t,.func (.func fa) #[] #[],.func (.func fb) #[] #[]] 224)).alloc (.cells #[.int .u8 n.k,.int .i64 n.b,.bool n.s] 213)=V:=⟨_,rfl⟩;have hs:(W.alloc (.cells #[.int .u8 G,.int .u8 H,.int .u8 n2,.int .u8 I,.int .u8 J,.int .u8 M,.string t,.func (.func fa) #[] #[],.func (.func fb) #[] #[]] 224)).heap.size=W.heap.size+1:=by show(W.heap.push _).size=_;simp
 have hr:V.heap[W.heap.size]?=some (.cells #[.int .u8 G,.int .u8 H,.int .u8 n2,.int .u8 I,.int .u8 J,.int .u8 M,.string t,.func (.func fa) #[] #[],.func (.func fb) #[] #[]] 224 (0,0)):=by rw[<-hV];exact bB (am W _) _
 have hd:V.heap[W.heap.size+1]?=some (.cells #[.int .u8 n.k,.int .i64 n.b,.bool n.s] 213 (0,0)):=by rw[<-hV,<-hs];exact am _ _
 have hB:Below W.heap.size W V:=by rw[<-hV];exact((gt _ _).alloc (ge _) _).alloc (by omega) _
 have HV:=ku hV
 have ak:Lk V W.heap.size [G,H,n2,I,J,M]:=fun j d u=>by
  match j,u with
  |0,u=>cases u;exact aa hr rfl
  |1,u=>cases u;exact aa hr rfl
  |2,u=>cases u;exact aa hr rfl
  |3,u=>cases u;exact aa hr rfl
  |4,u=>cases u;exact aa hr rfl
  |5,u=>cases u;exact aa hr rfl
  |j+6,u=>simp at u
 have HC:=ku fun X (O:Below V.heap.size V X)=>EW n W.heap.size [G,H,n2,I,J,M] 6 X (ak.below O) (by simp)
 have HF:=ku fun X (O:Below V.heap.size V X)=>hB.trans (O.mono hB.size)
 have m6:V.cell? ⟨W.heap.size,6,none⟩=some (.string t):=aa hr rfl;have m0:V.cell? ⟨W.heap.size+1,0,none⟩=some (.int .u8 n.k):=aa hd rfl;have m1:V.cell? ⟨W.heap.size+1,1,none⟩=some (.int .i64 n.b):=aa hd rfl;have m2:V.cell? ⟨W.heap.size+1,2,none⟩=some (.bool n.s):=aa hd rfl;have HK:Hid (∀X,Below V.heap.size V X->(X.cell? ⟨W.heap.size,6,none⟩=some (.string t)/\X.cell? ⟨W.heap.size+1,0,none⟩=some (.int .u8 n.k)/\X.cell? ⟨W.heap.size+1,1,none⟩=some (.int .i64 n.b)/\X.cell? ⟨W.heap.size+1,2,none⟩=some (.bool n.s)/\Below V.heap.size V X)):=fun X O=>⟨(O.cell (ai hr)).trans m6,(O.cell (ai hd)).trans m0,(O.cell (ai hd)).trans m1,(O.cell (ai hd)).trans m2,O⟩
 have HD:Hid (∀m,Below V.heap.size V (V.drewN m)):=fun m=>pf (gt _ _) m
 clear hr hd hB ak hs hV
 generalize[G,H,n2,I,J,M].any n.is=bb at *
 by_cases hq:(t.toList==[]||t.toList==tx.toList)=true
 ·rw[hq,MT]
  by_cases he:(t.toList==[])=true
  ·have p0:t.toList.isEmpty=true:=by simpa using he
   have af:∀x:HW (SG V),x.W.cell? ⟨W.heap.size,6,none⟩=some (.string t):=fun x=>bP m6 x.h
   have ac:∀x:HW (SG V),x.W.cell? ⟨W.heap.size+1,0,none⟩=some (.int .u8 n.k):=fun x=>bP m0 x.h
   have ad:∀x:HW (SG V),x.W.cell? ⟨W.heap.size+1,1,none⟩=some (.int .i64 n.b):=fun x=>bP m1 x.h
   have ae:∀x:HW (SG V),x.W.cell? ⟨W.heap.size+1,2,none⟩=some (.bool n.s):=fun x=>bP m2 x.h
   have ah:Nonempty (HW (SG V)):=⟨⟨V.drew,(gt _ _).drew⟩⟩;have ag:∀x:HW (SG V),∃y:HW (SG V),x.W=y.W:=fun x=>⟨x,rfl⟩
   have KT:Hid (∀x:HW (SG V),Kb 230 #[.slice (some ⟨W.heap.size,0,none⟩) 6 6,.func (.func 231) #[.agg #[.int .u8 n.k,.int .i64 n.b,.bool n.s]] #[]] x.W fun r w'=>r=.returned (.bool bb)/\Below x.W.heap.size x.W w'):=fun x=>HC.out x.W x.h
   clear m6 m0 m1 m2
   go_enter func169,ntmps169
   go_wp2_with fail
   rw[HV.out];refine cA (S:=SG V) (by kernel_rfl) (by kernel_rfl) (gt _ _).drew ?_
   repeat(go_big_quiet_step ((go_at_call 230;exact Calls.quiet_in _ (KT.out _) (fun _ _=>SG.keep))))
   refine wpQuiet_nil ?_;rintro w5⟨⟨W5,F⟩,rfl⟩;have ab:=ku F;clear ac ad ae af F ah ag
   go_wp2_with fail
   go_ret
   exact⟨rfl,HF.out _ ab.out⟩
  ·have al:(t.toList==[])=false:=by simpa using he
   have p2:(t.toList==tx.toList)=true:=by rw[al,Bool.false_or]at hq;exact hq
   clear he hq;have af:∀x:HW (SG V),x.W.cell? ⟨W.heap.size,6,none⟩=some (.string t):=fun x=>bP m6 x.h
   have ac:∀x:HW (SG V),x.W.cell? ⟨W.heap.size+1,0,none⟩=some (.int .u8 n.k):=fun x=>bP m0 x.h
   have ad:∀x:HW (SG V),x.W.cell? ⟨W.heap.size+1,1,none⟩=some (.int .i64 n.b):=fun x=>bP m1 x.h
   have ae:∀x:HW (SG V),x.W.cell? ⟨W.heap.size+1,2,none⟩=some (.bool n.s):=fun x=>bP m2 x.h
   have ah:Nonempty (HW (SG V)):=⟨⟨V.drew,(gt _ _).drew⟩⟩;have ag:∀x:HW (SG V),∃y:HW (SG V),x.W=y.W:=fun x=>⟨x,rfl⟩
   have KT:Hid (∀x:HW (SG V),Kb 230 #[.slice (some ⟨W.heap.size,0,none⟩) 6 6,.func (.func 231) #[.agg #[.int .u8 n.k,.int .i64 n.b,.bool n.s]] #[]] x.W fun r w'=>r=.returned (.bool bb)/\Below x.W.heap.size x.W w'):=fun x=>HC.out x.W x.h
   clear m6 m0 m1 m2
   go_enter func169,ntmps169
   go_wp2_with fail
   rw[HV.out];refine cA (S:=SG V) (by kernel_rfl) (by kernel_rfl) (gt _ _).drew ?_
   repeat(go_big_quiet_step ((go_at_call 230;exact Calls.quiet_in _ (KT.out _) (fun _ _=>SG.keep))))
   refine wpQuiet_nil ?_;rintro w5⟨⟨W5,F⟩,rfl⟩;have ab:=ku F;clear ac ad ae af F ah ag
   go_wp2_with fail
   go_ret
   exact⟨rfl,HF.out _ ab.out⟩
 ·have aj:(t.toList==[]||t.toList==tx.toList)=false:=by simpa using hq
  rw[aj,Oy];rw[MZ]at aj;obtain⟨p1,p2⟩:=aj;clear hq
  go_enter func169,ntmps169
  go_wp2_with fail
  rw[HV.out]
  go_quiet (fail)
  go_wp2_with fail
  go_ret
  exact⟨rfl,HF.out _ (HD.out _)⟩
def Rw.cs (r:Rw):List Value:=r.ns.map (Value.int .u8)++[.string ⟨r.t.toArray⟩,.func (.func r.a.id) #[] #[],.func (.func r.b.id) #[] #[]]
def fL:List Value:=tab.flatMap Rw.cs
theorem pY:fL.length=360:=by decide +kernel
theorem zB:∀v∈fL,v.oneCell'=true:=by
 intro v u;obtain⟨r,F,u⟩:=M8.1 u;unfold Rw.cs at u
 rcases Lg.1 u with h|h
 ·obtain⟨k,_,rfl⟩:=Mi.1 h;rfl
 ·simp only[KL,M7,or_false]at h
  rcases h with rfl|rfl|rfl<;>rfl
theorem sG {K:Act->World->Prop}{Q:Exit->Act->World->Prop}{w0 u:World}{N:Nat}{L:List Value}{f:Unit->World->Result Next}(F:L=fL) (G:(storeCells ⟨N,0,none⟩ fL).run Tryz.prog w0=.ok () u) (h:Oper.upon Tryz.prog o a K Q (f () u)):Oper.upon Tryz.prog o a K Q ((Sem.run Tryz.prog (storeCells ⟨N,0,none⟩ L) w0).andThen f):=by
 subst F;rw[G];exact h
theorem dW {P:Program}{G:Func}{u:Array Value}{w:World}{a:Nat}{t:TypeId}{ad:Addr}{v:Value}(h:G.results=#[.cell a t]) (H:u.getD a undef=.pointer (some ad)) (hl:(loadVar t ad).run P w=.ok v w):(results G u).run P w=.ok v w:=by
 have F:u[a]?.getD undef=.pointer (some ad):=by rw[<-Ma];exact H
 simp[results,h,F,asAddr,hl]
set_option maxRecDepth 100000 in
theorem wP (W:World):Kb 168 #[] W fun e w'=>e=.returned (.agg fL.toArray)/\Below W.heap.size W w':=by
 obtain⟨W0,u⟩:∃W0,W.alloc (.cells Tryz.zeroCells270 270)=W0:=⟨_,rfl⟩;have O:(Tryz.zeroCells270).size=360:=by kernel_rfl
 have I:W0.heap[W.heap.size]?=some (.cells Tryz.zeroCells270 270 (0,0)):=by rw[<-u];exact am W _
 have H:Below W.heap.size W W0:=by rw[<-u];exact(gt _ _).alloc (ge _) _
 have G:=OC Tryz.prog W.heap.size 0 270 fL 0 Tryz.zeroCells270 W0 I (by rw[pY,O];decide) zB
 have e1:(Tryz.zeroCells270).toList.take (0+0)++fL++(Tryz.zeroCells270).toList.drop (0+0+fL.length)=fL:=by
  rw[pY,Lu (by rw[KY,O];decide)];simp
 rw[e1]at G;obtain⟨W1,F⟩:∃W1,W0.setRow W.heap.size fL.toArray=W1:=⟨_,rfl⟩;rw[F]at G;have M:W1.heap[W.heap.size]?=some (.cells fL.toArray 270 (0,0)):=by rw[<-F];exact Na W0 _ _ _ _ _ I
 have J:Below W.heap.size W W1:=by rw[<-F];exact cy H (Kp.setRow W0 _ _) (fun k e=>by omega) H.size
 have hl:(loadVar 270 ⟨W.heap.size,0,none⟩).run Tryz.prog W1=.ok (.agg fL.toArray) W1:=Od (P:=Tryz.prog) W1 W.heap.size 270 270 fL.toArray (0,0) _ M underlying270 (by first|rfl|kernel_rfl) (by first|rfl|kernel_rfl);have HS:=ku G;have HL:=ku hl;have HB:=ku J;have HW:=ku u;clear u O I H G e1 F M J hl
 go_enter func168,ntmps168
 go_wp2_with fail
 rw[HW.out];refine sG (by kernel_rfl) HS.out ?_
 go_wp2_with fail
 refine Kv (v:=.agg fL.toArray) (dW (a:=0) (t:=270) (ad:=⟨W.heap.size,0,none⟩) (by kernel_rfl) (by rfl) HL.out) rfl ?_;exact⟨rfl,HB.out⟩
theorem SS.nd {S:Nat->Prop}{W:World}{g:Nat}{st:Sy}(h:SS S W g st) {b cap:Nat}{n m:Nd}{r:List Nd}(e:st.ns=n :: r) (hc:W.cell? ⟨g,1,none⟩=some (.slice (some ⟨b,0,none⟩) (r.length+1) cap)) (j:Nat) (u:Value) (I:j<3) (J:n.cs.set j u=m.cs) :
  W.frozen? ⟨b,r.length*3+j,none⟩=false/\Mv S g W (W.setCell ⟨b,r.length*3+j,none⟩ u) { st with ns:=m :: r }:=by
 obtain⟨vn,vw,F,G,O⟩:=h.ex;have H:vn=.slice (some ⟨b,0,none⟩) (r.length+1) cap:=by have:=F.sb.cells.2.1;rw[hc]at this;exact(KH this).symm
 subst H;have M:Rn tN W (.slice (some ⟨b,0,none⟩) (r.length+1) cap) (n :: r):=by rw[<-e];exact F.rn
 refine⟨ND M _,Mv.mk' (SV.nd e F j u I J) h.sg (fun k e=>.inl (G k e)) (fun k e=>.inl (O k e)) ((Kp.set _ _ _ _).sub (fun k e=>by rw[e];exact G b rfl)) F.sb.cells.2.1⟩
theorem SS.nodes {S:Nat->Prop}{W:World}(h:SS S W g st) {n:Nd}{r:List Nd}(e:st.ns=n :: r):∃b cap,W.cell? ⟨g,1,none⟩=some (.slice (some ⟨b,0,none⟩) (r.length+1) cap)/\W.cell? ⟨b,r.length*3,none⟩=some (.int .u8 n.k)/\W.cell? ⟨b,r.length*3+1,none⟩=some (.int .i64 n.b)/\W.cell? ⟨b,r.length*3+2,none⟩=some (.bool n.s)/\r.length+1<=cap:=by
 obtain⟨vn,vw,F,G,H⟩:=h.ex;have u:=F.rn;rw[e]at u;obtain⟨b,cap,rfl,hc1,hc2⟩:=ke u;obtain⟨a0,a1,a2⟩:=iC u;exact⟨b,cap,F.sb.cells.2.1,a0,a1,a2,hc2⟩
theorem SS.cells2 {S:Nat->Prop}{W:World}{g b cap:Nat}{st:Sy}(h:SS S W g st) {n:Nd}{r:List Nd}(e:st.ns=n :: r) (hc:W.cell? ⟨g,1,none⟩=some (.slice (some ⟨b,0,none⟩) (r.length+1) cap)):W.cell? ⟨b,r.length*3,none⟩=some (.int .u8 n.k)/\W.cell? ⟨b,r.length*3+1,none⟩=some (.int .i64 n.b)/\W.cell? ⟨b,r.length*3+2,none⟩=some (.bool n.s):=by
 obtain⟨J,F,u,G,H,I,_⟩:=h.nodes e;rw[hc]at u;cases u;exact⟨G,H,I⟩
theorem lh {S:Nat->Prop}{W:World}(h:SS S W g st) (hz:Bz 999999980 st) {n:Nd}{r:List Nd}(e:st.ns=n :: r) {b cap:Nat}(hc:W.cell? ⟨g,1,none⟩=some (.slice (some ⟨b,0,none⟩) (r.length+1) cap)) :
  Kb 124 #[bv g,.pointer (some ⟨b,r.length*3,none⟩)] W fun rr w'=>rr=.returned (.tuple #[])/\Mv S g W w' st.exprIn:=by
 have J:st.ns≠[]:=by rw[e];simp
 obtain⟨a0,a1,a2⟩:=h.cells2 e hc
 by_cases u:n.k=19
 ·have M:st.exprIn={ (st.aws [.S,.I 3])with ns:=⟨n.k,n.b+1,true⟩ :: r }:=by unfold Sy.exprIn;rw[e];simp only;rw[Kd u,Kd u]
  have O:(st.aws [.S,.I 3]).ns=⟨n.k,n.b+1,n.s⟩ :: r:=by show lZ (.I 3) (lZ .S st.ns)=_;rw[e];rfl
  have HF:=ku (jP h J (hz.mono (by omega)))
  have HX:Hid (∀w',Mv S g W w' (st.aws Fx.blankIn3.pz)->w'.frozen? ⟨b,r.length*3+2,none⟩=false/\w'.cell? ⟨b,r.length*3+2,none⟩=some (.bool n.s)/\Mv S g W (w'.setCell ⟨b,r.length*3+2,none⟩ (.bool true)) st.exprIn):=fun w' m=>by
   have H:=m.2.2.trans hc;obtain⟨S1,t1,u1⟩:=Mv.seq m;obtain⟨x1,I⟩:=SS.nd t1 (n:=⟨n.k,n.b+1,n.s⟩) (m:=⟨n.k,n.b+1,true⟩) O H 2 (.bool true) (by omega) rfl;refine⟨x1,(t1.cells2 O H).2.2,?_⟩;rw[M];exact u1 _ _ I
  have q1:(n.k==19)=true:=by simpa using u
  clear h hz J M O u
  go_enter func124,ntmps124
  go_wp2_with(go_at_call 166;refine HF.out.mono ?_;rintro r1 w1⟨rfl,m1⟩;obtain⟨x1,I,x3⟩:=HX.out _ m1;have HY:=show Hid (Mv S g W (w1.setCell ⟨b,r.length*3+2,none⟩ (.bool true)) st.exprIn)from x3;clear x3 m1)
  go_end0
  exact⟨rfl,HY.out⟩
 ·have q1:(n.k==19)=false:=by simpa using u
  by_cases F:n.k=31/\n.s=false
  ·have M:st.exprIn={ (st.aws [.B0])with ns:=⟨n.k,n.b,true⟩ :: r }:=by unfold Sy.exprIn;rw[e];simp only;rw[IO u,Kd F,IO u]
   have O:(st.aws [.B0]).ns=⟨n.k,n.b,n.s⟩ :: r:=by show lZ .B0 st.ns=_;rw[e];rfl
   have HF:=ku (jI h .B0 ⟨rfl,by decide⟩ (hz.mono (by omega)) (.inr trivial))
   have HX:Hid (∀w',Mv S g W w' (st.aw .B0)->w'.frozen? ⟨b,r.length*3+2,none⟩=false/\w'.cell? ⟨b,r.length*3+2,none⟩=some (.bool n.s)/\Mv S g W (w'.setCell ⟨b,r.length*3+2,none⟩ (.bool true)) st.exprIn):=fun w' m=>by
    have H:=m.2.2.trans hc;obtain⟨S1,t1,u1⟩:=Mv.seq m;obtain⟨x1,I⟩:=SS.nd t1 (n:=⟨n.k,n.b,n.s⟩) (m:=⟨n.k,n.b,true⟩) O H 2 (.bool true) (by omega) rfl;refine⟨x1,(t1.cells2 O H).2.2,?_⟩;rw[M];exact u1 _ _ I
   have q2:(n.k==31)=true:=by simpa using F.1
   rw[F.2]at a2;clear h hz J M O u F
   go_enter func124,ntmps124
   go_wp2_with(go_at_call 167;refine HF.out.mono ?_;rintro r1 w1⟨rfl,m1⟩;obtain⟨x1,I,x3⟩:=HX.out _ m1;have HY:=show Hid (Mv S g W (w1.setCell ⟨b,r.length*3+2,none⟩ (.bool true)) st.exprIn)from x3;clear x3 m1)
   go_end0
   exact⟨rfl,HY.out⟩
  ·have M:st.exprIn={ st with ns:=⟨n.k,n.b,true⟩ :: r }:=by unfold Sy.exprIn;rw[e];simp only;rw[IO u,IO F,IO u]
   obtain⟨x1,I⟩:=SS.nd h (n:=n) (m:=⟨n.k,n.b,true⟩) e hc 2 (.bool true) (by omega) rfl;rw[<-M]at I;have HY:=show Hid (Mv S g W (W.setCell ⟨b,r.length*3+2,none⟩ (.bool true)) st.exprIn)from I
   clear I M h hz J
   by_cases G:n.k=31
   ·have q2:(n.k==31)=true:=by simpa using G
    have hs:n.s=true:=by cases hq:n.s with|true=>rfl|false=>exact absurd ⟨G,hq⟩ F
    rw[hs]at a2;clear F G u hs
    go_enter func124,ntmps124
    go_wp2_with fail
    go_end0
    exact⟨rfl,HY.out⟩
   ·have q2:(n.k==31)=false:=by simpa using G
    clear F G u
    go_enter func124,ntmps124
    go_wp2_with fail
    go_end0
    exact⟨rfl,HY.out⟩
def Mw (S:Nat->Prop) (g:Nat) (W W':World) (st:Sy):Prop:=(∃S',SS S' W' g st/\∀k,S' k->S k\/W.heap.size<=k)/\Kp S W W'
theorem Mv.w {S:Nat->Prop}{W:World}(h:Mv S g W W' st):Mw S g W W' st:=⟨h.1,h.2.1⟩
theorem Mw.mk' {S:Nat->Prop}{W W':World}{g:Nat}{st:Sy}{vn vw:Value}(u:SV W' g st vn vw) (I:S g) (F:∀k,vn.ownBlock=some k->S k\/W.heap.size<=k) (G:∀k,vw.ownBlock=some k->S k\/W.heap.size<=k) (H:Kp S W W'):Mw S g W W' st:=
 ⟨⟨fun k=>(S k\/W.heap.size<=k)/\k<W'.heap.size,⟨⟨vn,vw,u,fun k e=>⟨F k e,fN u.rn k e⟩,fun k e=>⟨G k e,fN u.rd k e⟩⟩,⟨.inl I,u.sb.lt⟩,fun _ h=>h.2⟩,fun _ h=>h.1⟩,H⟩
theorem Mw.seq {S:Nat->Prop}{W:World}(h:Mw S g W W1 st):∃F,SS F W1 g st/\∀G u,Mw F g W1 G u->Mw S g W G u:=by
 obtain⟨⟨F,O,J⟩,I⟩:=h;refine⟨F,O,?_⟩;rintro G u⟨⟨S2,t1,t2⟩,hk2⟩;refine⟨⟨S2,t1,fun k H=>?_⟩,I.step hk2 (fun k aa M=>?_)⟩
 ·rcases t2 k H with a|a
  ·exact J k a
  ·exact .inr (Kh I.size a)
 ·rcases J k M with a|a
  ·exact a
  ·omega
theorem Tryz.info213:(Tryz.prog.info? 213).map (fun i=>(i.zero,i.size,i.bytes))=some (some (.agg #[.int .u8 0,.int .i64 0,.bool false]),3,24):=by kernel_rfl
theorem Jj {W:World}{G:Array Oper}{rest:List Oper}{Q:Exit->Act->World->Prop}(H:o.guard=none) (s x:Operand)
  (ho:o.op=.call { callee:=.builtin .append,args:=#[s,x],argTypes:=#[126,126] }) (v:Value) (l:List Nd) (d:Nd) (hs:a.eval s=v) (hr:Rn tN W v l)
  (g c:Nat) (hx:a.eval x=.slice (some ⟨g,0,none⟩) 1 c) (hg:W.heap[g]?=some (.cells #[.int .u8 d.k,.int .i64 d.b,.bool d.s] 213 (0,0))) (hl:l.length<=1000000000)
  (h:∀v' w',Rn tN w' v' (d :: l)->W.grownBy w' v.ownBlock->Nb W v v'->wpList Tryz.prog G Q rest (a.put o.dst v') w'):wpList Tryz.prog G Q (o :: rest) a W:=by
 obtain⟨i0,hi,I,J,M⟩:=LJ Tryz.info213;refine L7 (P:=Tryz.prog) (w:=W) H s x 126 ho 0 213 i0 _ 3 24 underlying126 hi I J M rfl (by decide) v _ _ hs hr ⟨g,0,none⟩ 1 c (pA [d]) hx (by rw[ko];rfl) ?_ (Ed [d]) (by unfold maxLen;omega) (by omega) (Kj _) ?_
 ·intro j u O;refine LW hg j u ?_;have e:pA [d]=[.int .u8 d.k,.int .i64 d.b,.bool d.s]:=by simp[pA,au,Nd.cs]
  rw[e]at O
  simpa using O
 ·intro v' w' h1 h2 _ F;refine h v' w' ?_ h2 ?_
  ·unfold Rn;rw[Ll,kq,List.length_cons];exact h1
  ·rcases F with F|F
   ·exact .inl F
   ·exact .inr ⟨_,F,ge _⟩
theorem SV.push {S:Nat->Prop}{W I:World}{vn vw v':Value}{d:Nd}(h:SV W g st vn vw) (hs:S g) (h1:∀k,vn.ownBlock=some k->S k) (h2:∀k,vw.ownBlock=some k->S k) (J:Below W.heap.size W W1) (hg:W1.grownBy I vn.ownBlock) (hr:Rn tN I v' (d :: st.ns)) (O:Nb W1 vn v') :
  (I.cell? ⟨g,1,none⟩=some vn/\I.frozen? ⟨g,1,none⟩=false)/\Mw S g W (I.setCell ⟨g,1,none⟩ v') { st with ns:=d :: st.ns }:=by
 have u:=h.below J;have M:=(Kp.of_grown hg).sub (S:=fun k=>vn.ownBlock=some k) (fun k e=>e.symm);have ac:¬vn.ownBlock=some g:=aE u.rn u.sb (by decide);have H:=u.sb.kp M ac;have d3:=M.row u.rd (fun k F G=>iB u.rd u.rn (by decide) k F G);refine⟨⟨aa H rfl,H.frozen 1⟩,Mw.mk' (vn:=v') (vw:=vw) ⟨ab H 1 _,(Kp.set _ _ _ _).row hr (fun k F G=>aE hr H (by decide) (by rw[F,G])),(Kp.set _ _ _ _).row d3 (fun k F G=>aE d3 H (by decide) (by rw[F,G]))⟩ hs (fun k e=>?_) (fun k e=>.inl (h2 k e)) (((Kp.of_below J).step M (fun k _ e=>h1 k e)).step (Kp.set _ _ _ _) (fun k _ e=>by rw[e];exact hs))⟩
 rcases O with O|⟨q,hq,ad⟩
 ·exact .inl (h1 k (by rw[<-O];exact e))
 ·rw[hq]at e;cases e;exact .inr (Kh J.size ad)
theorem SS.mark {S:Nat->Prop}{W:World}(h:SS S W g st) (n:Nat) :
  Mv S g W ((W.setCell ⟨g,3,none⟩ (.bool true)).setCell ⟨g,4,none⟩ (.int .i64 n)) { st with mr:=some n }:=by
 obtain⟨vn,vw,u,I,J⟩:=h.ex;have H:Kp (fun k=>k=g) W ((W.setCell ⟨g,3,none⟩ (.bool true)).setCell ⟨g,4,none⟩ (.int .i64 n)):=(Kp.set W g 3 _).trans (Kp.set _ g 4 _);exact Mv.mk' ⟨ab (ab u.sb 3 _) 4 _,H.row u.rn (fun k F G=>aE u.rn u.sb (by decide) (by rw[F,G])),H.row u.rd (fun k F G=>aE u.rd u.sb (by decide) (by rw[F,G]))⟩ h.sg (fun k e=>.inl (I k e)) (fun k e=>.inl (J k e)) (H.sub (fun k e=>by rw[e];exact h.sg)) u.sb.cells.2.1
theorem Mv.after {S:Nat->Prop}{W:World}{st':Sy}(h:SS S W g st) (u:Kc W V) (m:Mv S g V W' st'):Mv S g W W' st':=by
 obtain⟨⟨G,H,I⟩,J,hc⟩:=m;exact⟨⟨G,H,fun k F=>(I k F).imp id (fun e=>Kh u.size e)⟩,(Kp.of_below u).step J (fun _ _ h=>h),hc.trans (u.cell (h.lt g h.sg))⟩
theorem Bz.exprIn (h:Bz n st):Bz (n+2) st.exprIn:=by
 obtain⟨M,H,F⟩:=h;unfold Sy.exprIn
 split
 ·exact⟨by omega,by omega,fun x G=>by have:=F x G;omega⟩
 ·rename_i m r e
  rw[e]at H F;have O:=F m Ko;refine⟨?_,?_,?_⟩
  ·show(if m.k=19 then st.aws [.S,.I 3]else if m.k=31/\m.s=false then st.aws [.B0]else st).ws.length<=n+2
   split
   ·have I:=kB .S st.ns;have J:=kB (.I 3) (lZ .S st.ns);show(st.ws++pk .S st.ns++pk (.I 3) (lZ .S st.ns)).length<=_;rw[Kf,Kf];omega
   ·split
    ·have I:=kB .B0 st.ns;show(st.ws++pk .B0 st.ns).length<=_;rw[Kf];omega
    ·omega
  ·show((⟨m.k,_,true⟩:Nd) :: r).length<=n+2
   simp at H ⊢;omega
  ·intro x G;have u:x∈(⟨m.k,(if m.k=19 then m.b+1 else m.b),true⟩:Nd) :: r:=G
   rcases KL.1 u with rfl|u
   ·show(if m.k=19 then m.b+1 else m.b)<=n+2
    split<;>omega
   ·have:=F x (KA _ u);omega
theorem Bz.mark (h:Bz n st) (k:Int):Bz n (st.mark k):=by unfold Sy.mark;split;exact h;exact h
theorem lg {S:Nat->Prop}{W:World}(h:SS S W g st) (hz:Bz 900000000 st) (k:Int) :
  Kb 88 #[bv g,.int .u8 k] W fun H w'=>H=.returned (.tuple #[])/\Mw S g W w' (st.opens k):=by
 obtain⟨F,ae⟩:∃F,(if k=21 then st.exprIn else st)=F:=⟨_,rfl⟩;have ai:Bz 900000002 F:=by rw[<-ae];split;exact hz.exprIn;exact hz.mono (by omega)
 obtain⟨u,ag⟩:∃u,F.mark k=u:=⟨_,rfl⟩;have al:Bz 900000002 u:=by rw[<-ag];exact ai.mark k
 have e9:st.opens k=Sy.aws { u with ns:=⟨k,0,false⟩ :: u.ns } (FN k):=by unfold Sy.opens;simp only;rw[ae,ag]
 rw[e9]
 have aj:∃p n c,W.cell? ⟨g,1,none⟩=some (.slice p n c)/\n=st.ns.length:=by
  obtain⟨vn,vw,M,_⟩:=h.ex;obtain⟨p,c,e,_⟩:=az M.rn;exact⟨p,_,c,by rw[<-e];exact M.sb.cells.2.1,rfl⟩
 obtain⟨pp,nn,cc,af,I⟩:=aj
 have HA:Hid (∀n r,st.ns=n :: r->k=21->∃b cap,pp=some ⟨b,0,none⟩/\cc=cap/\nn=r.length+1/\Kb 121 #[bv g] W (fun H w'=>H=.returned (.pointer (some ⟨b,r.length*3,none⟩))/\Kc W w')/\∀V,Kc W V->Kb 124 #[bv g,.pointer (some ⟨b,r.length*3,none⟩)] V fun H w'=>H=.returned (.tuple #[])/\Mv S g W w' F):=fun n r e hk=>by
  obtain⟨b,cap,a1,_⟩:=h.nodes e;rw[af]at a1;cases a1;refine⟨b,cc,rfl,rfl,rfl,er af (by have:=hz.2.1;rw[e]at this;simp at this;omega),fun V hb=>?_⟩;refine(lh (h.below hb) (hz.mono (by omega)) e ((hb.cell (h.lt g h.sg)).trans af)).mono ?_;rintro H w'⟨rfl,m⟩;refine⟨rfl,?_⟩;rw[<-ae,Kd hk];exact m.after h hb
 have HQ:Hid (¬(k=21/\st.ns≠[])->Mv S g W W F):=fun hn=>by
  rw[<-ae]
  by_cases hk:k=21
  ·rw[Kd hk];have:st.ns=[]:=KG fun ap=>hn ⟨hk,ap⟩
   have e8:st.exprIn=st:=by unfold Sy.exprIn;rw[this]
   rw[e8];exact Mv.refl h
  ·rw[IO hk];exact Mv.refl h
 have HH:=ku (yk k);have HZ:Hid (Bz 900000002 F/\Bz 900000002 u/\F.mark k=u):=⟨ai,al,ag⟩;have hl:(∃n r,st.ns=n :: r)\/st.ns=[]:=by cases st.ns with|nil=>exact .inr rfl|cons n r=>exact .inl ⟨n,r,rfl⟩
 clear h hz ae ai ag al e9
 go_enter func88,ntmps88
 obtain⟨b1,G⟩:∃b1:Bool,decide (k=21/\st.ns≠[])=b1:=⟨_,rfl⟩
 go_upto_region 0 with fail
 go_cut [13]from 4 to 13 (fun t wx=>t=.bool b1/\wx=W)
 case first=>
  have HX:=ku G;clear G
  rcases hl with⟨n,r,e⟩|e
  ·have q1:(0:Int)<(nn:Int):=by rw[I,e];simp
   by_cases hk:k=21
   ·have HY:Hid (true=b1):=by rw[<-HX.out,Ku ⟨hk,by rw[e];simp⟩];exact rfl
    subst hk;clear HX I e
    go_wp2_with fail
    go_meet
    exact⟨by rw[HY.out],rfl⟩
   ·have HY:Hid (false=b1):=by rw[<-HX.out,Kr (fun h=>hk h.1)];exact rfl
    have q2:(k==21)=false:=by simpa using hk
    clear HX I e hk
    go_wp2_with fail
    go_meet
    exact⟨by rw[HY.out],rfl⟩
  ·have HY:Hid (false=b1):=by rw[<-HX.out,Kr (fun h=>h.2 e)];exact rfl
   obtain rfl:nn=0:=by rw[I,e];rfl
   clear HX I e
   go_wp2_with fail
   go_meet
   exact⟨by rw[HY.out],rfl⟩
 case rest=>
 obtain⟨rfl,ac⟩:=hcut;replace ac:=ac.symm;subst ac
 go_upto_if 13 with fail
 go_cut []from 14 to 17 (fun wx=>Hid (Mv S g W wx F))
 case first=>
  cases b1 with
  |true=>
   have hd:=KQ G
   rcases hl with⟨n,r,e⟩|e
   ·obtain⟨b,cap,rfl,rfl,rfl,a4,a5⟩:=HA.out n r e hd.1;have HI:=show Hid (Kb 121 #[bv g] W (fun H w'=>H=.returned (.pointer (some ⟨b,r.length*3,none⟩))/\Kc W w'))from a4
    have HO:=show Hid (∀V,Kc W V->Kb 124 #[bv g,.pointer (some ⟨b,r.length*3,none⟩)] V fun H w'=>H=.returned (.tuple #[])/\Mv S g W w' F)from a5
    clear a4 a5 HA HQ I e G hd
    go_wp2_with(first|(go_at_call 121;refine HI.out.mono ?_;rintro r1 J⟨rfl,G⟩;have HB:=show Hid (Kc W J)from G;clear G)|(go_at_call 124;refine(HO.out _ HB.out).mono ?_;rintro r2 w2⟨rfl,m2⟩;have HM:=show Hid (Mv S g W w2 F)from m2;clear m2))
    go_meet
    exact HM
   ·exact absurd e hd.2
  |false=>
   have HM:=ku (HQ.out (ME G));clear HA HQ I G hl
   go_wp2_with fail
   go_meet
   exact HM
 case rest=>
  obtain⟨S1,t1,u1⟩:=Mw.seq hcut.out.w;obtain⟨J,hw1⟩:∃J,J=wc:=⟨wc,rfl⟩;subst hw1;have ak:=show Hid (SS S1 J g F/\∀W2 an,Mw S1 g J W2 an->Mw S g W W2 an)from⟨t1,u1⟩
  obtain⟨vn,vw,M,v1,v2⟩:=t1.ex;obtain⟨c0,c1,c2,c3,c4,c5,c6,c7⟩:=M.sb.cells;have f3:=M.sb.frozen 3;have f4:=M.sb.frozen 4;obtain⟨pw,cw,evw,_⟩:=bG M.rd;subst evw
  have O:Hid (iK k=true/\F.mr=none->Mv S1 g J ((J.setCell ⟨g,3,none⟩ (.bool true)).setCell ⟨g,4,none⟩ (.int .i64 F.ws.length)) u):=fun hd=>by
   have:=t1.mark F.ws.length;have e8:u={ F with mr:=some F.ws.length }:=by rw[<-HZ.out.2.2];unfold Sy.mark;rw[Kd hd]
   rw[e8];exact this
  have aa:Hid (¬(iK k=true/\F.mr=none)->Mv S1 g J J u):=fun hd=>by
   have e8:u=F:=by rw[<-HZ.out.2.2];unfold Sy.mark;rw[IO hd]
   rw[e8];exact Mv.refl t1
  clear t1 u1 hcut HA HQ G hl I af v1 v2 M c0 c1 c5 c6 c7;obtain⟨b2,ab⟩:∃b2:Bool,decide (iK k=true/\F.mr=none)=b2:=⟨_,rfl⟩
  go_upto_region 2 with fail
  go_cut [26]from 18 to 26 (fun t wx=>t=.bool b2/\wx=J)
  case first=>
   have HX:=ku ab;clear ab;cases hh:iK k with
   |false=>
    have HY:Hid (false=b2):=by rw[<-HX.out,Kr (fun h=>by rw[hh]at h;cases h.1)];exact rfl
    rw[hh]at HH;clear HX O aa hh
    go_wp2_with(go_at_call 125;refine(HH.out _).mono ?_;rintro r1 w2⟨rfl,rfl⟩)
    go_meet
    exact⟨by rw[HY.out],rfl⟩
   |true=>
    rw[hh]at HH;cases hm:F.mr with
    |none=>
     have HY:Hid (true=b2):=by rw[<-HX.out,Ku ⟨hh,hm⟩];exact rfl
     rw[hm]at c3;clear HX O aa hh hm
     go_wp2_with(go_at_call 125;refine(HH.out _).mono ?_;rintro r1 w2⟨rfl,rfl⟩)
     go_meet
     exact⟨by rw[HY.out],rfl⟩
    |some q=>
     have HY:Hid (false=b2):=by rw[<-HX.out,Kr (fun h=>by rw[hm]at h;cases h.2)];exact rfl
     rw[hm]at c3;clear HX O aa hh hm
     go_wp2_with(go_at_call 125;refine(HH.out _).mono ?_;rintro r1 w2⟨rfl,rfl⟩)
     go_meet
     exact⟨by rw[HY.out],rfl⟩
  case rest=>
  obtain⟨rfl,ac⟩:=hcut;replace ac:=ac.symm;subst ac
  go_upto_if 26 with fail
  go_cut []from 27 to 37 (fun wx=>Hid (Mv S1 g J wx u))
  case first=>
   cases b2 with
   |true=>
    have HM:=show Hid (Mv S1 g J ((J.setCell ⟨g,3,none⟩ (.bool true)).setCell ⟨g,4,none⟩ (.int .i64 F.ws.length)) u)from O.out (KQ ab)
    clear O aa ab
    go_wp2_with fail
    go_meet
    exact HM
   |false=>
    have HM:=show Hid (Mv S1 g J J u)from aa.out (ME ab)
    clear O aa ab
    go_wp2_with fail
    go_meet
    exact HM
  case rest=>
   obtain⟨S2,t2,u2⟩:=Mw.seq hcut.out.w;obtain⟨w2,hw2⟩:∃w2,w2=wc:=⟨wc,rfl⟩;subst hw2;obtain⟨vn,vw,M,v1,v2⟩:=t2.ex;obtain⟨c0,c1,c2,c3,c4,c5,c6,c7⟩:=M.sb.cells;have aq:=M.sb.lt;obtain⟨pn,cn,evn,_⟩:=az M.rn;subst evn;have ar:=HZ.out.2.1.2.1;have HR:Hid (Rn tN (w2.alloc (.cells #[.int .u8 k,.int .i64 0,.bool false] 213)) (.slice pn u.ns.length cn) u.ns):=bi M.rn ((gt _ _).alloc (ge _) _)
   have HP:Hid (∀v' w3,Rn tN w3 v' (⟨k,0,false⟩ :: u.ns)->(w2.alloc (.cells #[.int .u8 k,.int .i64 0,.bool false] 213)).grownBy w3 (Value.slice pn u.ns.length cn).ownBlock->Nb (w2.alloc (.cells #[.int .u8 k,.int .i64 0,.bool false] 213)) (.slice pn u.ns.length cn) v'->(w3.cell? ⟨g,1,none⟩=some (.slice pn u.ns.length cn)/\w3.frozen? ⟨g,1,none⟩=false)/\Mw S g W (w3.setCell ⟨g,1,none⟩ v') { u with ns:=⟨k,0,false⟩ :: u.ns }):=fun v' w3 a1 a2 a3=>by
    obtain⟨b1,b2⟩:=M.push t2.sg v1 v2 ((gt _ _).alloc (ge _) _) a2 a1 a3;exact⟨b1,ak.out.2 _ _ (u2 _ _ b2)⟩
   have HB:Hid (∀V,Mw S g W V { u with ns:=⟨k,0,false⟩ :: u.ns }->∀(i:Int) (p:Pz),p.d=dI i false/\p.n=1->Kb 126 #[bv g,.int .i64 i,.bool false] V fun H w'=>H=.returned (.tuple #[])/\Mw S g W w' (Sy.aw { u with ns:=⟨k,0,false⟩ :: u.ns } p)):=fun V hV i p hp=>by
    obtain⟨S3,t3,u3⟩:=Mw.seq hV;have z:=HZ.out.2.1
    refine(dz t3 p hp (by simp) (by have:=z.1;show u.ws.length<=_;omega) (by have:=z.2.1;show((⟨k,0,false⟩:Nd) :: u.ns).length<=_;simp;omega) (fun n hn=>by
     rcases KL.1 hn with rfl|hn
     ·simp
     ·have:=z.2.2 n hn;omega)).mono ?_
    rintro H w'⟨rfl,m⟩;exact⟨rfl,u3 _ _ m.w⟩
   clear t2 u2 hcut O aa ab M v1 v2 c0 c2 c3 c4 c5 c6 c7 f3 f4 ak HZ HH
   go_upto_region 5 with(at_builtin;refine Jj rfl _ _ rfl (.slice pn u.ns.length cn) u.ns ⟨k,0,false⟩ rfl HR.out w2.heap.size 1 rfl (am w2 _) (by omega) ?_;intro v' w3 a1 a2 a3;obtain⟨p3,c3,ev,_⟩:=az a1;obtain⟨⟨x1,x2⟩,x3⟩:=HP.out v' w3 a1 a2 a3;subst ev;have HM:=show Hid (Mw S g W (w3.setCell ⟨g,1,none⟩ (.slice p3 (u.ns.length+1) c3)) { u with ns:=⟨k,0,false⟩ :: u.ns })from x3;clear x3 a1 a2 a3)
   clear HR HP
   by_cases k1:k=21\/k=22\/k=23\/k=24
   ·have ad:Hid (FN k=[.I 0]):=by show _=_;unfold FN;rw[Kd k1]
    have ah:=show Hid (Kb 126 #[bv g,.int .i64 0,.bool false] (w3.setCell ⟨g,1,none⟩ (.slice p3 (u.ns.length+1) c3)) fun H w'=>H=.returned (.tuple #[])/\Mw S g W w' (Sy.aw { u with ns:=⟨k,0,false⟩ :: u.ns } (.I 0)))from HB.out _ HM.out 0 (.I 0) ⟨rfl,rfl⟩
    clear HB HM
    rcases k1 with rfl|rfl|rfl|rfl
    all_goals(
     go_wp2_with(go_at_call 126;refine ah.out.mono ?_;rintro r4 w4⟨rfl,m4⟩;have HE:=ku m4;clear m4)
     go_end0
     exact⟨rfl,by rw[ad.out];exact HE.out⟩)
   ·by_cases k2:k=14\/k=7\/k=11
    ·have ad:Hid (FN k=[.I 2]):=by show _=_;unfold FN;rw[IO k1,Kd k2]
     have ah:=show Hid (Kb 126 #[bv g,.int .i64 2,.bool false] (w3.setCell ⟨g,1,none⟩ (.slice p3 (u.ns.length+1) c3)) fun H w'=>H=.returned (.tuple #[])/\Mw S g W w' (Sy.aw { u with ns:=⟨k,0,false⟩ :: u.ns } (.I 2)))from HB.out _ HM.out 2 (.I 2) ⟨rfl,rfl⟩
     clear HB HM k1
     rcases k2 with rfl|rfl|rfl
     all_goals(
      go_wp2_with(go_at_call 126;refine ah.out.mono ?_;rintro r4 w4⟨rfl,m4⟩;have HE:=ku m4;clear m4)
      go_end0
      exact⟨rfl,by rw[ad.out];exact HE.out⟩)
    ·have ad:Hid (FN k=[]):=by show _=_;unfold FN;rw[IO k1,IO k2]
     simp only[not_or]at k1 k2;have q1:(k==21)=false:=by simpa using k1.1
     have q2:(k==22)=false:=by simpa using k1.2.1
     have q3:(k==23)=false:=by simpa using k1.2.2.1
     have q4:(k==24)=false:=by simpa using k1.2.2.2
     have q5:(k==14)=false:=by simpa using k2.1
     have q6:(k==7)=false:=by simpa using k2.2.1
     have q7:(k==11)=false:=by simpa using k2.2.2
     clear HB k1 k2
     go_wp2_with fail
     go_end0
     exact⟨rfl,by rw[ad.out];exact HM.out⟩
