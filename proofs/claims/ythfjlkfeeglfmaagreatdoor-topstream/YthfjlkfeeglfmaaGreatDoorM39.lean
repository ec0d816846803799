import Derived.Deep.CutRange
import Derived.Test.YthfjlkfeeglfmaaGreatDoorM38
set_option linter.all false
set_option maxHeartbeats 4000000
namespace Go.Proofs.YthfjlkfeeglfmaaGreatDoor
open Go.Proofs.Tryz
open Go.RowKit
open Lw (Dc bE rt bQ cq gK kq bR aS bY)
variable {W' w' V W1:World}{st:Sy}{g n:Nat}{v:Value}{o:Oper}{a:Act}
def dv {B:Nat}{w W:World}(h:Below B w W) (m:Nat):Below B w (W.drewN m):=⟨by rw[World.drewN];exact h.os,by rw[World.drewN];exact h.tape,by rw[World.drewN];exact h.output,by rw[World.drewN];exact h.size,by rw[World.drewN];exact h.block⟩
def gR {S:Nat->Prop}{W:World}(h:SS S W g st) (hl:st.ws.length<=1000000000) (hm:∀m,st.mr=some m->m<=st.ws.length) (f:Int) :
  Sa 151 #[bP g,Tu f] W λr w'=>Uk r (.tuple #[])/\Mv S g W w' (st.emp f):=by
 obtain⟨vn,vw,J,s1,s2⟩:=h.ex;have Y:=h.sg;obtain⟨p,cap,e,hc1,hc2⟩:=bv J.rd;subst e;obtain⟨c0,c1,c2,c3,c4,c5,c6,c7⟩:=J.sb.cells;have aa:=J.sb.lt;have quiet:st.emp f=st->∀V,Below W.heap.size W V->Mv S g W V (st.emp f):=λe V G=>by rw[e];exact Mv.quiet h G
 cases u:st.mr with
 |none=>
  have I:=aW (quiet (by unfold Sy.emp;rw[u]));rw[u]at c3 c4;clear quiet h J s1 s2;have HB:Hid (∀m,Se W (W.drewN m)):=λm=>dv (gt _ _) m
  go_enter func151,ntmps151;(go_wp2_with fail)
  go_quiet (fail)
  (go_wp2_with fail);refine R0 (v:=.tuple #[]) (by simp[results,Tryz.f151,go_sem]) rfl ?_;exact⟨rfl,I.out _ (HB.out _)⟩
 |some m=>
  have Q:=hm m u;rw[u]at c3 c4;simp only[Option.isSome_some,Vu]at c3 c4;have HB:Hid (∀m,Se W (W.drewN m)):=λm=>dv (gt _ _) m
  by_cases hf:f<2
  ·have I:=aW (quiet (by unfold Sy.emp;rw[u];simp only;rw[Or (.inl hf)]));clear quiet h J s1 s2;go_enter func151,ntmps151;(go_wp2_with fail)
   go_quiet (fail)
   (go_wp2_with fail);refine R0 (v:=.tuple #[]) (by simp[results,Tryz.f151,go_sem]) rfl ?_;exact⟨rfl,I.out _ (HB.out _)⟩
  ·have qf:decide (f<2)=false:=R9 hf;cases Z:st.wr with
   |false=>
    have I:=aW (quiet (by unfold Sy.emp;rw[u];simp only;rw[Or (.inr (.inl Z))]));rw[Z]at c5;clear quiet h J s1 s2 c0 c1 c6 c7 hm u Q Z hl Y hc1 hc2;go_enter func151,ntmps151;(go_wp2_with fail)
    go_quiet (fail)
    (go_wp2_with fail);refine R0 (v:=.tuple #[]) (by simp[results,Tryz.f151,go_sem]) rfl ?_;exact⟨rfl,I.out _ (HB.out _)⟩
   |true=>
    rw[Z]at c5
    have HK:Hid (∀V,Se W V->(V.cell? (Tw g 3)=some (.bool true)/\V.cell? (Tw g 5)=some (.bool true)/\V.cell? (Tw g 2)=some (.slice p st.ws.length cap)/\V.cell? (Tw g 4)=some (Tu m)/\Se W V)):=λV G=>by
     have M:=aa;exact⟨(G.cell M).trans c3,(G.cell M).trans c5,(G.cell M).trans c2,(G.cell M).trans c4,G⟩
    have HC:Hid (∀V,Se W V->Sa 214 #[.slice p m cap,.func (.func 215) #[] #[]] V λr w'=>Uk r (.bool ((st.ws.take m).any br))/\Se V w'):=λV G=>by
     have ae:(st.ws.take m).length=m:=by rw[Sk];omega
     have:=Hn p (st.ws.take m) cap V ((vm (J.below G).rd).take m) (by omega);rw[ae]at this;exact this
    have q5:(0:Int)<=(m:Int):=by omega
    have q6:(m:Int)<=(cap:Int):=by omega
    have I:Hid ((st.ws.take m).any br=true->∀V,Se W V->Mv S g W V (st.emp f)):=λha=>quiet (by unfold Sy.emp;rw[u];simp only;rw[Or (.inr (.inr ha))])
    have HI:Hid ((st.ws.take m).any br=false->∀V,Se W V->Sa 158 #[.slice p st.ws.length cap,Tu m,.slice (some ⟨V.heap.size,0,none⟩) 1 1] (V.alloc (.cells #[.int .u8 5,.string ⟨#[]⟩,Tu 0,Tu 0,.bool false] 37)) λr w'=>∃p' n' c',Uk r (.slice p' n' c')/\(w'.cell? (Tw g 2)=some (.slice p st.ws.length cap)/\w'.frozen? (Tw g 2)=false)/\Mv S g W (w'.setCell ⟨g,2,none⟩ (.slice p' n' c')) (st.emp f)):=λha V G=>by
     have e9:st.emp f={ st with ws:=st.ws.take m++dE :: st.ws.drop m }:=by
      unfold Sy.emp;rw[u];simp only;rw[Eq (by rintro(a|a|a);exact hf a;rw[Z]at a;cases a;rw[ha]at a;cases a)]
     rw[e9];exact ww J Y s1 s2 hl dE (i:=m) Q G
    generalize(st.ws.take m).any br=bg at *;generalize st.ws.length=n0 at *;clear quiet h J s1 s2 c0 c1 c6 c7 hm u Z Y hc2 c2 c3 c4 c5 hl Q hc1;go_enter func151,ntmps151;(go_wp2_with fail)
    go_region_held3 (λw'=>w'.cell? (Tw g 3)=some (.bool true)/\w'.cell? (Tw g 5)=some (.bool true)/\w'.cell? (Tw g 2)=some (.slice p n0 cap)/\w'.cell? (Tw g 4)=some (Tu m)/\Below W.heap.size W w') (first|(exact HK.out _ (by assumption))|(exact HK.out _ (gt _ _).drew)|go_keep) (first|(go_at_call 214;refine(HC.out _ (by first|assumption|exact(gt _ _).drew)).mono ?_;rintro e w1⟨rfl,O⟩;have H:=(by first|exact(gt W.heap.size W).drew.trans (O.mono (ge _))|exact(by assumption:Below W.heap.size W _).trans (O.mono (U2 (by assumption))):Below W.heap.size W w1);clear O))
    all_goals(
     have ab:=aW H;cases bg with
     |true=>
      have ad:=aW (I.out rfl _ H);clear I HI;(go_wp2_with fail);refine R0 (v:=.tuple #[]) (by simp[results,Tryz.f151,go_sem]) rfl ?_;exact⟨rfl,ad.out⟩
     |false=>
      obtain⟨x1,x2,x3,x4,_⟩:=HK.out _ H;have ag:g<w1.heap.size:=R4 aa H.size;have af:=aW H.drew;have ac:=aW λV (G:Se W V)=>HI.out rfl V.drew G.drew
      clear H I HI;(go_wp2_with fail)
      go_region_law (first|(go_simp;go_at_call 158;refine(ac.out w1 ab.out).mono ?_;rintro r w3⟨p3,n3,c3,rfl,⟨y2,y3⟩,y4⟩;have HX:=aW y4;clear y4))
      all_goals(
       (go_wp2_with fail);go_end0;exact⟨rfl,HX.out⟩))
structure HW (S:World->Prop) where
 W:World
 h:S W
def dq {P:Program}{S:World->Prop}{id:Nat}{Q:Exit->Act->World->Prop}{a:Act}{w:World}{l:List Oper}(I:P.follows .mixedOrders=true) (G:Region.lexB .any l.toArray=true) (H:S w.drew)
  (h:wpQuiet P l.toArray (λw'=>∃x:HW S,w'=x.W) (λu=>∀w',(∃x:HW S,w'=x.W)->Q .normal u w') l a):(Code.region id l.toArray true).wp P Q a w:=
 wp_region_quiet (C:=λw'=>∃x:HW S,w'=x.W) I G ⟨⟨w.drew,H⟩,rfl⟩ (by simpa using h)
def Calls.quiet_in {P:Program}{S:World->Prop}{f:FuncId}{args:Array Value}(x:HW S) (h:Calls P f args x.W λe w'=>Uk e v/\Below x.W.heap.size x.W w') (G:∀W W',S W->Below W.heap.size W W'->S W') :
  Calls P f args x.W λe u=>Uk e v/\∃y:HW S,u=y.W:=
 h.mono λe w' ⟨I,H⟩=>⟨I,⟨w',G _ _ x.h H⟩,rfl⟩
def cr {w:World}{p:Addr}(h:w.cell? p=some v) (u:Below w.heap.size w w'):w'.cell? p=some v:=(u.cell (RV w p h)).trans h
def SG (V W:World):Prop:=Below V.heap.size V W
def SG.keep {W:World}(h:SG V W) (u:Below W.heap.size W W'):SG V W':=Below.trans h (u.mono (U2 h))
def NS (n:Nd) (k:Int) (W:World):Sa 247 #[.agg #[.int .u8 n.k,Tu n.b,.bool n.s],.int .u8 k] W λe w'=>Uk e (.bool (n.is k))/\Se W w':=by
 have H:Hid (∀o,Se W (W.alloc o)):=λo=>(gt _ _).alloc (ge _) _
 by_cases u:k=33
 ·subst u
  have G:Hid (n.is 33=(n.k==5&&(n.b:Int)==0)):=by
   show _=_;unfold Nd.is;rw[Or rfl]
   by_cases a:n.k=5<;>by_cases b:n.b=0<;>simp[a,b]
  go_enter func247,ntmps247;(go_wp2_with fail)
  all_goals(go_ret;rw[G.out];refine⟨?_,H.out _⟩;simp_all)
 ·have q:(k==33)=false:=by simpa using u
  have G:Hid (n.is k=(n.k==k)):=by
   show _=_;unfold Nd.is;rw[Eq u]
   by_cases a:n.k=k<;>simp[a]
  clear u;go_enter func247,ntmps247;(go_wp2_with fail);go_ret;rw[G.out];exact⟨rfl,H.out _⟩
def Lk (w:World) (b:Nat) (l:List Int):Prop:=∀j d,l[j]?=some d->w.cell? ⟨b,j,none⟩=some (.int .u8 d)
def Lk.below {w:World}{b:Nat}{l:List Int}(h:Lk w b l) (G:Below w.heap.size w w'):Lk w' b l:=λj d u=>(G.cell (RV _ _ (h j d u))).trans (h j d u)
def KK (n:Nd) (b:Nat) (l:List Int) (cap:Nat) (W:World) (h:Lk W b l) (hl:l.length<=1000000000) :
  Sa 271 #[.slice (some (Tw b 0)) l.length cap,.func (.func 247) #[.agg #[.int .u8 n.k,Tu n.b,.bool n.s]] #[]] W λr w'=>(∃z:Int,Uk r (Tu z)/\(decide (0<=z)=l.any n.is))/\Se W w':=by
 have H:=aW h;clear h;have S:=aW (NS n);go_enter func271,ntmps271;(go_wp2_with fail)
 go_loopw [5,8] (λ_ i wr=>∃k:Nat,k<=l.length/\i=Tu k/\Hid ((l.take k).any n.is=false)/\Hid (Se W wr)) (λ_ i _=>l.length-(intOf i).toNat)
 case atStart=>exact⟨0,RU _,rfl,by show _=_;simp,gt _ _⟩
 case round=>
  obtain⟨k,hk,rfl,HI,G⟩:=hrel
  by_cases J:k<l.length
  ·have q1:(k:Int)<l.length:=by omega
   have q0:(0:Int)<=k:=by omega
   obtain⟨x,O⟩:∃x,l[k]?=some x:=⟨_,Pi J⟩;have c0:=(H.out.below G.out) k x O;have Y:=aW (lh n.is l k x O HI.out);have Z:Hid ((l.take (k+1)).any n.is=true->l.any n.is=true):=lg n.is l _;clear O
   by_cases M:n.is x=true
   ·go_wp2_with(go_at_call 247;refine(S.out x _).mono ?_;rintro e Q⟨rfl,u⟩;rw[M];have HC:=aW (G.out.trans (u.mono G.out.size));clear u)
    go_ret;exact⟨⟨_,rfl,by rw[Z.out (Y.out.trans M)];simp⟩,HC.out⟩
   ·have I:n.is x=false:=by simpa using M
    clear M
    go_wp2_with(go_at_call 247;refine(S.out x _).mono ?_;rintro e Q⟨rfl,u⟩;rw[I];have HC:=aW (G.out.trans (u.mono G.out.size));clear u)
    exact⟨⟨k+1,J,by go_num,Y.out.trans I,HC⟩,by simp[intOf];omega⟩
  ·obtain rfl:k=l.length:=by omega
   have q1:¬((l.length:Int)<l.length):=by omega
   (go_wp2_with fail);go_ret;refine⟨⟨_,rfl,?_⟩,G.out⟩;have:=HI.out;rw[Te]at this;rw[this];rfl
def Lq (n:Nd) (b:Nat) (l:List Int) (cap:Nat) (W:World) (h:Lk W b l) (hl:l.length<=1000000000) :
  Sa 246 #[.slice (some (Tw b 0)) l.length cap,.func (.func 247) #[.agg #[.int .u8 n.k,Tu n.b,.bool n.s]] #[]] W λr w'=>Uk r (.bool (l.any n.is))/\Below W.heap.size W w':=by
 have H:=aW (KK n b l cap W h hl);clear h;generalize l.any n.is=bb at *;go_enter func246,ntmps246
 go_wp2_with(go_at_call 271;refine H.out.mono ?_;rintro r J⟨⟨z,rfl,I⟩,u⟩;have G:=aW u;clear u;subst I)
 go_ret;exact⟨by simp,G.out⟩
def Dj (H n1 n2 I J M:Int) (t:ByteArray) (fa fb:Nat) (n:Nd) (tx:ByteArray) (W:World) :
  Sa 212 #[.agg #[.int .u8 H,.int .u8 n1,.int .u8 n2,.int .u8 I,.int .u8 J,.int .u8 M,.string t,.func (.func fa) #[] #[],.func (.func fb) #[] #[]],.agg #[.int .u8 n.k,Tu n.b,.bool n.s],.string tx] W λe w'=>Uk e (.bool ((t.toList==[]||t.toList==tx.toList)&&[H,n1,n2,I,J,M].any n.is))/\Below W.heap.size W w':=by
 obtain⟨V,hV⟩:=ea ((W.alloc (.cells #[.int .u8 H,.int .u8 n1,.int .u8 n2,.int .u8 I,.int .u8 J,.int .u8 M,.string t,.func (.func fa) #[] #[],.func (.func fb) #[] #[]] 250)).alloc (.cells #[.int .u8 n.k,Tu n.b,.bool n.s] 238));have hs:(W.alloc (.cells #[.int .u8 H,.int .u8 n1,.int .u8 n2,.int .u8 I,.int .u8 J,.int .u8 M,.string t,.func (.func fa) #[] #[],.func (.func fb) #[] #[]] 250)).heap.size=W.heap.size+1:=by show(W.heap.push _).size=_;simp
 have Q:V.heap[W.heap.size]?=some (.cells #[.int .u8 H,.int .u8 n1,.int .u8 n2,.int .u8 I,.int .u8 J,.int .u8 M,.string t,.func (.func fa) #[] #[],.func (.func fb) #[] #[]] 250 (0,0)):=by rw[<-hV];exact aI (ak W _) _
 have hd:V.heap[W.heap.size+1]?=some (.cells #[.int .u8 n.k,Tu n.b,.bool n.s] 238 (0,0)):=by rw[<-hV,<-hs];exact ak _ _
 have hB:Below W.heap.size W V:=by rw[<-hV];exact((gt _ _).alloc (ge _) _).alloc (by omega) _
 have HV:=aW hV
 have ah:Lk V W.heap.size [H,n1,n2,I,J,M]:=λj d u=>by
  match j,u with
  |0,u=>cases u;exact aa Q rfl
  |1,u=>cases u;exact aa Q rfl
  |2,u=>cases u;exact aa Q rfl
  |3,u=>cases u;exact aa Q rfl
  |4,u=>cases u;exact aa Q rfl
  |5,u=>cases u;exact aa Q rfl
  |j+6,u=>simp at u
 have HC:=aW λX (O:Below V.heap.size V X)=>Lq n W.heap.size [H,n1,n2,I,J,M] 6 X (ah.below O) (by simp)
 have HF:=aW λX (O:Below V.heap.size V X)=>hB.trans (O.mono hB.size)
 have m6:V.cell? ⟨W.heap.size,6,none⟩=some (.string t):=aa Q rfl;have m0:V.cell? ⟨W.heap.size+1,0,none⟩=some (.int .u8 n.k):=aa hd rfl;have m1:V.cell? ⟨W.heap.size+1,1,none⟩=some (Tu n.b):=aa hd rfl;have m2:V.cell? ⟨W.heap.size+1,2,none⟩=some (.bool n.s):=aa hd rfl;have HK:Hid (∀X,Below V.heap.size V X->(X.cell? ⟨W.heap.size,6,none⟩=some (.string t)/\X.cell? ⟨W.heap.size+1,0,none⟩=some (.int .u8 n.k)/\X.cell? ⟨W.heap.size+1,1,none⟩=some (Tu n.b)/\X.cell? ⟨W.heap.size+1,2,none⟩=some (.bool n.s)/\Below V.heap.size V X)):=λX O=>⟨(O.cell (ai Q)).trans m6,(O.cell (ai hd)).trans m0,(O.cell (ai hd)).trans m1,(O.cell (ai hd)).trans m2,O⟩
 have HD:Hid (∀m,Below V.heap.size V (V.drewN m)):=λm=>dv (gt _ _) m
 clear Q hd hB ah hs hV;generalize[H,n1,n2,I,J,M].any n.is=bb at *
 by_cases hq:(t.toList==[]||t.toList==tx.toList)=true
 ·rw[hq,TB]
  by_cases he:(t.toList==[])=true
  ·have p0:t.toList.isEmpty=true:=by simpa using he
   have ad:∀x:HW (SG V),x.W.cell? ⟨W.heap.size,6,none⟩=some (.string t):=λx=>cr m6 x.h
   have Z:∀x:HW (SG V),x.W.cell? ⟨W.heap.size+1,0,none⟩=some (.int .u8 n.k):=λx=>cr m0 x.h
   have ab:∀x:HW (SG V),x.W.cell? ⟨W.heap.size+1,1,none⟩=some (Tu n.b):=λx=>cr m1 x.h
   have ac:∀x:HW (SG V),x.W.cell? ⟨W.heap.size+1,2,none⟩=some (.bool n.s):=λx=>cr m2 x.h
   have af:Nonempty (HW (SG V)):=⟨⟨V.drew,(gt _ _).drew⟩⟩;have ae:∀x:HW (SG V),∃y:HW (SG V),x.W=y.W:=λx=>⟨x,rfl⟩
   have KT:Hid (∀x:HW (SG V),Sa 246 #[.slice (some ⟨W.heap.size,0,none⟩) 6 6,.func (.func 247) #[.agg #[.int .u8 n.k,Tu n.b,.bool n.s]] #[]] x.W λr w'=>Uk r (.bool bb)/\Below x.W.heap.size x.W w'):=λx=>HC.out x.W x.h
   clear m6 m0 m1 m2;go_enter func212,ntmps212;(go_wp2_with fail);rw[HV.out];refine dq (S:=SG V) (by kernel_rfl) (by kernel_rfl) (gt _ _).drew ?_
   repeat(go_big_quiet_step ((go_at_call 246;exact Calls.quiet_in _ (KT.out _) (λ_ _=>SG.keep))))
   refine wpQuiet_nil ?_;rintro w5⟨⟨W5,G⟩,rfl⟩;have Y:=aW G;clear Z ab ac ad G af ae;(go_wp2_with fail);go_ret;exact⟨rfl,HF.out _ Y.out⟩
  ·have aj:(t.toList==[])=false:=by simpa using he
   have p2:(t.toList==tx.toList)=true:=by rw[aj,Bool.false_or]at hq;exact hq
   clear he hq;have ad:∀x:HW (SG V),x.W.cell? ⟨W.heap.size,6,none⟩=some (.string t):=λx=>cr m6 x.h
   have Z:∀x:HW (SG V),x.W.cell? ⟨W.heap.size+1,0,none⟩=some (.int .u8 n.k):=λx=>cr m0 x.h
   have ab:∀x:HW (SG V),x.W.cell? ⟨W.heap.size+1,1,none⟩=some (Tu n.b):=λx=>cr m1 x.h
   have ac:∀x:HW (SG V),x.W.cell? ⟨W.heap.size+1,2,none⟩=some (.bool n.s):=λx=>cr m2 x.h
   have af:Nonempty (HW (SG V)):=⟨⟨V.drew,(gt _ _).drew⟩⟩;have ae:∀x:HW (SG V),∃y:HW (SG V),x.W=y.W:=λx=>⟨x,rfl⟩
   have KT:Hid (∀x:HW (SG V),Sa 246 #[.slice (some ⟨W.heap.size,0,none⟩) 6 6,.func (.func 247) #[.agg #[.int .u8 n.k,Tu n.b,.bool n.s]] #[]] x.W λr w'=>Uk r (.bool bb)/\Below x.W.heap.size x.W w'):=λx=>HC.out x.W x.h
   clear m6 m0 m1 m2;go_enter func212,ntmps212;(go_wp2_with fail);rw[HV.out];refine dq (S:=SG V) (by kernel_rfl) (by kernel_rfl) (gt _ _).drew ?_
   repeat(go_big_quiet_step ((go_at_call 246;exact Calls.quiet_in _ (KT.out _) (λ_ _=>SG.keep))))
   refine wpQuiet_nil ?_;rintro w5⟨⟨W5,G⟩,rfl⟩;have Y:=aW G;clear Z ab ac ad G af ae;(go_wp2_with fail);go_ret;exact⟨rfl,HF.out _ Y.out⟩
 ·have ag:(t.toList==[]||t.toList==tx.toList)=false:=by simpa using hq
  rw[ag,Wd];rw[UN]at ag;obtain⟨p1,p2⟩:=ag;clear hq;go_enter func212,ntmps212;(go_wp2_with fail);rw[HV.out]
  go_quiet (fail)
  (go_wp2_with fail);go_ret;exact⟨rfl,HF.out _ (HD.out _)⟩
def Rw.cs (r:Rw):List Value:=r.ns.map (Value.int .u8)++[.string ⟨r.t.toArray⟩,.func (.func r.a.id) #[] #[],.func (.func r.b.id) #[] #[]]
def gO:List Value:=tab.flatMap Rw.cs
def uL:gO.length=360:=by decide +kernel
def Eo:∀v∈gO,v.oneCell'=true:=by
 intro v u;obtain⟨r,G,u⟩:=UR.1 u;unfold Rw.cs at u
 rcases Ss.1 u with h|h
 ·obtain⟨k,_,rfl⟩:=TY.1 h;rfl
 ·simp only[Sm,Uu,W4]at h
  rcases h with rfl|rfl|rfl<;>rfl
def xM {K:Act->World->Prop}{Q:Exit->Act->World->Prop}{w0 u:World}{N:Nat}{L:List Value}{f:Unit->World->Result Next}(G:L=gO) (H:(storeCells (Tw N 0) gO).run Tryz.prog w0=.ok () u) (h:Oper.upon Tryz.prog o a K Q (f () u)):Oper.upon Tryz.prog o a K Q ((Sem.run Tryz.prog (storeCells (Tw N 0) L) w0).andThen f):=by
 subst G;rw[H];exact h
def fg {P:Program}{H:Func}{u:Array Value}{w:World}{a:Nat}{t:TypeId}{ad:Addr}{v:Value}(h:H.results=#[.cell a t]) (I:u.getD a undef=.pointer (some ad)) (hl:(loadVar t ad).run P w=.ok v w):(results H u).run P w=.ok v w:=by
 have G:u[a]?.getD undef=.pointer (some ad):=by rw[<-UA];exact I
 simp[results,h,G,asAddr,hl]
set_option maxRecDepth 100000 in
def BX (W:World):Sa 211 #[] W λe w'=>Uk e (.agg gO.toArray)/\Below W.heap.size W w':=by
 obtain⟨W0,u⟩:=ea (W.alloc (.cells Tryz.zeroCells287 287));have Q:(Tryz.zeroCells287).size=360:=by kernel_rfl
 have J:W0.heap[W.heap.size]?=some (.cells Tryz.zeroCells287 287 (0,0)):=by rw[<-u];exact ak W _
 have I:Below W.heap.size W W0:=by rw[<-u];exact(gt _ _).alloc (ge _) _
 have H:=We Tryz.prog W.heap.size 0 287 gO 0 Tryz.zeroCells287 W0 J (by rw[uL,Q];decide) Eo
 have S:(Tryz.zeroCells287).toList.take (0+0)++gO++(Tryz.zeroCells287).toList.drop (0+0+gO.length)=gO:=by
  rw[uL,S4 (by rw[Tb,Q];decide)];simp
 rw[S]at H;obtain⟨W1,G⟩:=ea (W0.setRow W.heap.size gO.toArray);rw[G]at H;have O:W1.heap[W.heap.size]?=some (.cells gO.toArray 287 (0,0)):=by rw[<-G];exact UT W0 _ _ _ _ _ J
 have M:Below W.heap.size W W1:=by rw[<-G];exact jk I (Kp.setRow W0 _ _) (λk e=>by omega) I.size
 have hl:(loadVar 287 ⟨W.heap.size,0,none⟩).run Tryz.prog W1=.ok (.agg gO.toArray) W1:=VP (P:=Tryz.prog) W1 W.heap.size 287 287 gO.toArray (0,0) _ O underlying287 (by first|rfl|kernel_rfl) (by first|rfl|kernel_rfl);have Z:=aW H;have HL:=aW hl;have Y:=aW M;have HW:=aW u;clear u Q J I H S G O M hl;go_enter func211,ntmps211;(go_wp2_with fail);rw[HW.out];refine xM (by kernel_rfl) Z.out ?_;(go_wp2_with fail);refine R0 (v:=.agg gO.toArray) (fg (a:=0) (t:=287) (ad:=⟨W.heap.size,0,none⟩) (by kernel_rfl) (by rfl) HL.out) rfl ?_;exact⟨rfl,Y.out⟩
def SS.nd {S:Nat->Prop}{W:World}{g:Nat}{st:Sy}(h:SS S W g st) {b cap:Nat}{n m:Nd}{r:List Nd}(e:st.ns=n :: r) (hc:W.cell? (Tw g 1)=some (.slice (some (Tw b 0)) (r.length+1) cap)) (j:Nat) (u:Value) (J:j<3) (M:n.cs.set j u=m.cs) :
  W.frozen? ⟨b,r.length*3+j,none⟩=false/\Mv S g W (W.setCell ⟨b,r.length*3+j,none⟩ u) { st with ns:=m :: r }:=by
 obtain⟨vn,vw,G,H,Q⟩:=h.ex;have I:vn=.slice (some (Tw b 0)) (r.length+1) cap:=by have:=G.sb.cells.2.1;rw[hc]at this;exact(SJ this).symm
 subst I;have O:Rn tN W (.slice (some (Tw b 0)) (r.length+1) cap) (n :: r):=by rw[<-e];exact G.rn
 refine⟨Vc O _,Mv.mk' (SV.nd e G j u J M) h.sg (λk e=>.inl (H k e)) (λk e=>.inl (Q k e)) ((Kp.set _ _ _ _).sub (λk e=>by rw[e];exact H b rfl)) G.sb.cells.2.1⟩
def SS.nodes {S:Nat->Prop}{W:World}(h:SS S W g st) {n:Nd}{r:List Nd}(e:st.ns=n :: r):∃b cap,W.cell? (Tw g 1)=some (.slice (some (Tw b 0)) (r.length+1) cap)/\W.cell? ⟨b,r.length*3,none⟩=some (.int .u8 n.k)/\W.cell? ⟨b,r.length*3+1,none⟩=some (Tu n.b)/\W.cell? ⟨b,r.length*3+2,none⟩=some (.bool n.s)/\r.length+1<=cap:=by
 obtain⟨vn,vw,G,H,I⟩:=h.ex;have u:=G.rn;rw[e]at u;obtain⟨b,cap,rfl,hc1,hc2⟩:=np u;obtain⟨a0,a1,a2⟩:=kv u;exact⟨b,cap,G.sb.cells.2.1,a0,a1,a2,hc2⟩
def SS.cells2 {S:Nat->Prop}{W:World}{g b cap:Nat}{st:Sy}(h:SS S W g st) {n:Nd}{r:List Nd}(e:st.ns=n :: r) (hc:W.cell? (Tw g 1)=some (.slice (some (Tw b 0)) (r.length+1) cap)):W.cell? ⟨b,r.length*3,none⟩=some (.int .u8 n.k)/\W.cell? ⟨b,r.length*3+1,none⟩=some (Tu n.b)/\W.cell? ⟨b,r.length*3+2,none⟩=some (.bool n.s):=by
 obtain⟨J,cap',u,G,H,I,_⟩:=h.nodes e;rw[hc]at u;cases u;exact⟨G,H,I⟩
def oV {S:Nat->Prop}{W:World}(h:SS S W g st) (Z:Bz 999999980 st) {n:Nd}{r:List Nd}(e:st.ns=n :: r) {b cap:Nat}(hc:W.cell? (Tw g 1)=some (.slice (some (Tw b 0)) (r.length+1) cap)) :
  Sa 145 #[bP g,.pointer (some ⟨b,r.length*3,none⟩)] W λrr w'=>Uk rr (.tuple #[])/\Mv S g W w' st.exprIn:=by
 have M:st.ns≠[]:=by rw[e];simp
 obtain⟨a0,a1,a2⟩:=h.cells2 e hc
 by_cases u:n.k=19
 ·have O:st.exprIn={ (st.aws [.S,.I 3])with ns:=⟨n.k,n.b+1,true⟩ :: r }:=by unfold Sy.exprIn;rw[e];simp only;rw[Or u,Or u]
  have en:(st.aws [.S,.I 3]).ns=⟨n.k,n.b+1,n.s⟩ :: r:=by show gX (.I 3) (gX .S st.ns)=_;rw[e];rfl
  have HF:=aW (mL h M (Z.mono (by omega)))
  have HX:Hid (∀w',Mv S g W w' (st.aws Fx.blankIn3.pz)->w'.frozen? ⟨b,r.length*3+2,none⟩=false/\w'.cell? ⟨b,r.length*3+2,none⟩=some (.bool n.s)/\Mv S g W (w'.setCell ⟨b,r.length*3+2,none⟩ (.bool true)) st.exprIn):=λw' m=>by
   have I:=m.2.2.trans hc;obtain⟨S1,t1,u1⟩:=Mv.seq m;obtain⟨Y,J⟩:=SS.nd t1 (n:=⟨n.k,n.b+1,n.s⟩) (m:=⟨n.k,n.b+1,true⟩) en I 2 (.bool true) (by omega) rfl;refine⟨Y,(t1.cells2 en I).2.2,?_⟩;rw[O];exact u1 _ _ J
  have q1:(n.k==19)=true:=by simpa using u
  clear h Z M O en u;go_enter func145,ntmps145
  go_wp2_with(go_at_call 209;refine HF.out.mono ?_;rintro r1 w1⟨rfl,m1⟩;obtain⟨Y,J,x3⟩:=HX.out _ m1;have Q:=show Hid (Mv S g W (w1.setCell ⟨b,r.length*3+2,none⟩ (.bool true)) st.exprIn)from x3;clear x3 m1)
  go_end0;exact⟨rfl,Q.out⟩
 ·have q1:(n.k==19)=false:=by simpa using u
  by_cases G:n.k=31/\n.s=false
  ·have O:st.exprIn={ (st.aws [.B0])with ns:=⟨n.k,n.b,true⟩ :: r }:=by unfold Sy.exprIn;rw[e];simp only;rw[Eq u,Or G,Eq u]
   have en:(st.aws [.B0]).ns=⟨n.k,n.b,n.s⟩ :: r:=by show gX .B0 st.ns=_;rw[e];rfl
   have HF:=aW (mu h .B0 ⟨rfl,by decide⟩ (Z.mono (by omega)) (.inr trivial))
   have HX:Hid (∀w',Mv S g W w' (st.aw .B0)->w'.frozen? ⟨b,r.length*3+2,none⟩=false/\w'.cell? ⟨b,r.length*3+2,none⟩=some (.bool n.s)/\Mv S g W (w'.setCell ⟨b,r.length*3+2,none⟩ (.bool true)) st.exprIn):=λw' m=>by
    have I:=m.2.2.trans hc;obtain⟨S1,t1,u1⟩:=Mv.seq m;obtain⟨Y,J⟩:=SS.nd t1 (n:=⟨n.k,n.b,n.s⟩) (m:=⟨n.k,n.b,true⟩) en I 2 (.bool true) (by omega) rfl;refine⟨Y,(t1.cells2 en I).2.2,?_⟩;rw[O];exact u1 _ _ J
   have q2:(n.k==31)=true:=by simpa using G.1
   rw[G.2]at a2;clear h Z M O en u G;go_enter func145,ntmps145
   go_wp2_with(go_at_call 210;refine HF.out.mono ?_;rintro r1 w1⟨rfl,m1⟩;obtain⟨Y,J,x3⟩:=HX.out _ m1;have Q:=show Hid (Mv S g W (w1.setCell ⟨b,r.length*3+2,none⟩ (.bool true)) st.exprIn)from x3;clear x3 m1)
   go_end0;exact⟨rfl,Q.out⟩
  ·have O:st.exprIn={ st with ns:=⟨n.k,n.b,true⟩ :: r }:=by unfold Sy.exprIn;rw[e];simp only;rw[Eq u,Eq G,Eq u]
   obtain⟨Y,J⟩:=SS.nd h (n:=n) (m:=⟨n.k,n.b,true⟩) e hc 2 (.bool true) (by omega) rfl;rw[<-O]at J;have Q:=show Hid (Mv S g W (W.setCell ⟨b,r.length*3+2,none⟩ (.bool true)) st.exprIn)from J
   clear J O h Z M
   by_cases H:n.k=31
   ·have q2:(n.k==31)=true:=by simpa using H
    have hs:n.s=true:=by cases hq:n.s with|true=>rfl|false=>exact absurd ⟨H,hq⟩ G
    rw[hs]at a2;clear G H u hs;go_enter func145,ntmps145;(go_wp2_with fail);go_end0;exact⟨rfl,Q.out⟩
   ·have q2:(n.k==31)=false:=by simpa using H
    clear G H u;go_enter func145,ntmps145;(go_wp2_with fail);go_end0;exact⟨rfl,Q.out⟩
def Mw (S:Nat->Prop) (g:Nat) (W W':World) (st:Sy):Prop:=(∃S',SS S' W' g st/\∀k,S' k->S k\/W.heap.size<=k)/\Kp S W W'
def Mv.w {S:Nat->Prop}{W:World}(h:Mv S g W W' st):Mw S g W W' st:=⟨h.1,h.2.1⟩
def Mw.mk' {S:Nat->Prop}{W W':World}{g:Nat}{st:Sy}{vn vw:Value}(u:SV W' g st vn vw) (J:S g) (G:∀k,vn.ownBlock=some k->S k\/W.heap.size<=k) (H:∀k,vw.ownBlock=some k->S k\/W.heap.size<=k) (I:Kp S W W'):Mw S g W W' st:=
 ⟨⟨λk=>(S k\/W.heap.size<=k)/\k<W'.heap.size,⟨⟨vn,vw,u,λk e=>⟨G k e,gQ u.rn k e⟩,λk e=>⟨H k e,gQ u.rd k e⟩⟩,⟨.inl J,u.sb.lt⟩,λ_ h=>h.2⟩,λ_ h=>h.1⟩,I⟩
def Mw.seq {S:Nat->Prop}{W:World}(h:Mw S g W W1 st):∃G,SS G W1 g st/\∀H u,Mw G g W1 H u->Mw S g W H u:=by
 obtain⟨⟨G,Q,M⟩,J⟩:=h;refine⟨G,Q,?_⟩;rintro H u⟨⟨S2,t1,t2⟩,hk2⟩;refine⟨⟨S2,t1,λk I=>?_⟩,J.step hk2 (λk Y O=>?_)⟩
 ·rcases t2 k I with a|a
  ·exact M k a
  ·exact .inr (PI J.size a)
 ·rcases M k O with a|a
  ·exact a
  ·omega
def Tryz.info238:(Tryz.prog.info? 238).map (λi=>(i.zero,i.size,i.bytes))=some (some (.agg #[.int .u8 0,Tu 0,.bool false]),3,24):=by kernel_rfl
def P7 {W:World}{H:Array Oper}{rest:List Oper}{Q:Exit->Act->World->Prop}(I:o.guard=none) (s x:Operand)
  (ho:o.op=.call { callee:=.builtin .append,args:=#[s,x],argTypes:=#[166,166] }) (v:Value) (l:List Nd) (d:Nd) (hs:a.eval s=v) (hr:Rn tN W v l)
  (g c:Nat) (hx:a.eval x=.slice (some (Tw g 0)) 1 c) (hg:W.heap[g]?=some (.cells #[.int .u8 d.k,Tu d.b,.bool d.s] 238 (0,0))) (hl:l.length<=1000000000)
  (h:∀v' w',Rn tN w' v' (d :: l)->W.grownBy w' v.ownBlock->Nb W v v'->wpList Tryz.prog H Q rest (a.put o.dst v') w'):wpList Tryz.prog H Q (o :: rest) a W:=by
 obtain⟨i0,hi,J,M,O⟩:=Tf Tryz.info238;refine Th (P:=Tryz.prog) (w:=W) I s x 166 ho 0 238 i0 _ 3 24 underlying166 hi J M O rfl (by decide) v _ _ hs hr (Tw g 0) 1 c (um [d]) hx (by rw[nH];rfl) ?_ (KB [d]) (by unfold maxLen;omega) (by omega) (RU _) ?_
 ·intro j u S;refine Ta hg j u ?_;have e:um [d]=[.int .u8 d.k,Tu d.b,.bool d.s]:=by simp[um,ap,Nd.cs]
  rw[e]at S
  simpa using S
 ·intro v' w' Y Z _ G;refine h v' w' ?_ Z ?_
  ·unfold Rn;rw[Ts,nI,List.length_cons];exact Y
  ·rcases G with G|G
   ·exact .inl G
   ·exact .inr ⟨_,G,ge _⟩
def SV.push {S:Nat->Prop}{W J:World}{vn vw v':Value}{d:Nd}(h:SV W g st vn vw) (hs:S g) (h1:∀k,vn.ownBlock=some k->S k) (h2:∀k,vw.ownBlock=some k->S k) (M:Below W.heap.size W W1) (hg:W1.grownBy J vn.ownBlock) (hr:Rn tN J v' (d :: st.ns)) (Q:Nb W1 vn v') :
  (J.cell? (Tw g 1)=some vn/\J.frozen? (Tw g 1)=false)/\Mw S g W (J.setCell ⟨g,1,none⟩ v') { st with ns:=d :: st.ns }:=by
 have u:=h.below M;have O:=(Kp.of_grown hg).sub (S:=λk=>vn.ownBlock=some k) (λk e=>e.symm);have Y:¬vn.ownBlock=some g:=aF u.rn u.sb (by decide);have I:=u.sb.kp O Y;have d3:=O.row u.rd (λk G H=>ku u.rd u.rn (by decide) k G H);refine⟨⟨aa I rfl,I.frozen 1⟩,Mw.mk' (vn:=v') (vw:=vw) ⟨ag I 1 _,(Kp.set _ _ _ _).row hr (λk G H=>aF hr I (by decide) (by rw[G,H])),(Kp.set _ _ _ _).row d3 (λk G H=>aF d3 I (by decide) (by rw[G,H]))⟩ hs (λk e=>?_) (λk e=>.inl (h2 k e)) (((Kp.of_below M).step O (λk _ e=>h1 k e)).step (Kp.set _ _ _ _) (λk _ e=>by rw[e];exact hs))⟩
 rcases Q with Q|⟨q,hq,Z⟩
 ·exact .inl (h1 k (by rw[<-Q];exact e))
 ·rw[hq]at e;cases e;exact .inr (PI M.size Z)
def SS.mark {S:Nat->Prop}{W:World}(h:SS S W g st) (n:Nat) :
  Mv S g W ((W.setCell ⟨g,3,none⟩ (.bool true)).setCell ⟨g,4,none⟩ (Tu n)) { st with mr:=some n }:=by
 obtain⟨vn,vw,u,J,M⟩:=h.ex;have I:Kp (λk=>k=g) W ((W.setCell ⟨g,3,none⟩ (.bool true)).setCell ⟨g,4,none⟩ (Tu n)):=(Kp.set W g 3 _).trans (Kp.set _ g 4 _);exact Mv.mk' ⟨ag (ag u.sb 3 _) 4 _,I.row u.rn (λk G H=>aF u.rn u.sb (by decide) (by rw[G,H])),I.row u.rd (λk G H=>aF u.rd u.sb (by decide) (by rw[G,H]))⟩ h.sg (λk e=>.inl (J k e)) (λk e=>.inl (M k e)) (I.sub (λk e=>by rw[e];exact h.sg)) u.sb.cells.2.1
def Mv.after {S:Nat->Prop}{W:World}{st':Sy}(h:SS S W g st) (u:Se W V) (m:Mv S g V W' st'):Mv S g W W' st':=by
 obtain⟨⟨H,I,J⟩,M,hc⟩:=m;exact⟨⟨H,I,λk G=>(J k G).imp id (λe=>PI u.size e)⟩,(Kp.of_below u).step M (λ_ _ h=>h),hc.trans (u.cell (h.lt g h.sg))⟩
def Bz.exprIn (h:Bz n st):Bz (n+2) st.exprIn:=by
 obtain⟨O,I,G⟩:=h;unfold Sy.exprIn
 split
 ·exact⟨by omega,by omega,λx H=>by have:=G x H;omega⟩
 ·rename_i m r e
  rw[e]at I G;have Q:=G m RZ;refine⟨?_,?_,?_⟩
  ·show(if m.k=19 then st.aws [.S,.I 3]else if m.k=31/\m.s=false then st.aws [.B0]else st).ws.length<=n+2
   split
   ·have J:=fW .S st.ns;have M:=fW (.I 3) (gX .S st.ns);show(st.ws++jQ .S st.ns++jQ (.I 3) (gX .S st.ns)).length<=_;rw[IO,IO];omega
   ·split
    ·have J:=fW .B0 st.ns;show(st.ws++jQ .B0 st.ns).length<=_;rw[IO];omega
    ·omega
  ·show((⟨m.k,_,true⟩:Nd) :: r).length<=n+2;simp at I ⊢;omega
  ·intro x H;have u:x∈(⟨m.k,(if m.k=19 then m.b+1 else m.b),true⟩:Nd) :: r:=H
   rcases Sm.1 u with rfl|u
   ·show(if m.k=19 then m.b+1 else m.b)<=n+2
    split<;>omega
   ·have:=G x (R1 _ u);omega
def Bz.mark (h:Bz n st) (k:Int):Bz n (st.mark k):=by unfold Sy.mark;split;exact h;exact h
def FN {S:Nat->Prop}{W:World}(h:SS S W g st) (hz:Bz 900000000 st) (k:Int) :
  Sa 82 #[bP g,.int .u8 k] W λI w'=>I=.returned (.tuple #[])/\Mw S g W w' (st.opens k):=by
 obtain⟨G,ac⟩:=ea (if k=21 then st.exprIn else st);have ag:Bz 900000002 G:=by rw[<-ac];split;exact hz.exprIn;exact hz.mono (by omega)
 obtain⟨u,ae⟩:=ea (G.mark k);have aj:Bz 900000002 u:=by rw[<-ae];exact ag.mark k
 have e9:st.opens k=Sy.aws { u with ns:=⟨k,0,false⟩ :: u.ns } (uk k):=by unfold Sy.opens;simp only;rw[ac,ae]
 rw[e9]
 have ah:∃p n c,W.cell? (Tw g 1)=some (.slice p n c)/\n=st.ns.length:=by
  obtain⟨vn,vw,O,_⟩:=h.ex;obtain⟨p,c,e,_⟩:=aG O.rn;exact⟨p,_,c,by rw[<-e];exact O.sb.cells.2.1,rfl⟩
 obtain⟨pp,nn,cc,ad,J⟩:=ah
 have HA:Hid (∀n r,st.ns=n :: r->k=21->∃b cap,pp=some (Tw b 0)/\cc=cap/\nn=r.length+1/\Sa 142 #[bP g] W (λI w'=>I=.returned (.pointer (some ⟨b,r.length*3,none⟩))/\Se W w')/\∀V,Se W V->Sa 145 #[bP g,.pointer (some ⟨b,r.length*3,none⟩)] V λI w'=>I=.returned (.tuple #[])/\Mv S g W w' G):=λn r e hk=>by
  obtain⟨b,cap,a1,_⟩:=h.nodes e;rw[ad]at a1;cases a1;refine⟨b,cc,rfl,rfl,rfl,fu ad (by have:=hz.2.1;rw[e]at this;simp at this;omega),λV hb=>?_⟩;refine(oV (h.below hb) (hz.mono (by omega)) e ((hb.cell (h.lt g h.sg)).trans ad)).mono ?_;rintro I w'⟨rfl,m⟩;refine⟨rfl,?_⟩;rw[<-ac,Or hk];exact m.after h hb
 have HQ:Hid (¬(k=21/\st.ns≠[])->Mv S g W W G):=λhn=>by
  rw[<-ac]
  by_cases hk:k=21
  ·rw[Or hk];have:st.ns=[]:=SQ λam=>hn ⟨hk,am⟩
   have e8:st.exprIn=st:=by unfold Sy.exprIn;rw[this]
   rw[e8];exact Mv.refl h
  ·rw[Eq hk];exact Mv.refl h
 have HH:=aW (CZ k);have HZ:Hid (Bz 900000002 G/\Bz 900000002 u/\G.mark k=u):=⟨ag,aj,ae⟩;have hl:(∃n r,st.ns=n :: r)\/st.ns=[]:=by cases st.ns with|nil=>exact .inr rfl|cons n r=>exact .inl ⟨n,r,rfl⟩
 clear h hz ac ag ae aj e9;go_enter func82,ntmps82;obtain⟨b1,H⟩:∃b1:Bool,decide (k=21/\st.ns≠[])=b1:=⟨_,rfl⟩;go_upto_region 0 with fail
 go_cut [13]from 4 to 13 (λt wx=>t=.bool b1/\wx=W)
 case first=>
  have HX:=aW H;clear H
  rcases hl with⟨n,r,e⟩|e
  ·have q1:(0:Int)<(nn:Int):=by rw[J,e];simp
   by_cases hk:k=21
   ·have HY:Hid (true=b1):=by rw[<-HX.out,R8 ⟨hk,by rw[e];simp⟩];exact rfl
    subst hk;clear HX J e;(go_wp2_with fail)
    go_meet
    exact⟨by rw[HY.out],rfl⟩
   ·have HY:Hid (false=b1):=by rw[<-HX.out,R9 (λh=>hk h.1)];exact rfl
    have q2:(k==21)=false:=by simpa using hk
    clear HX J e hk;(go_wp2_with fail)
    go_meet
    exact⟨by rw[HY.out],rfl⟩
  ·have HY:Hid (false=b1):=by rw[<-HX.out,R9 (λh=>h.2 e)];exact rfl
   obtain rfl:nn=0:=by rw[J,e];rfl
   clear HX J e;(go_wp2_with fail)
   go_meet
   exact⟨by rw[HY.out],rfl⟩
 case rest=>
 obtain⟨rfl,aa⟩:=hcut;replace aa:=aa.symm;subst aa
 go_upto_if 13 with fail
 go_cut []from 14 to 17 (λwx=>Hid (Mv S g W wx G))
 case first=>
  cases b1 with
  |true=>
   have hd:=SE H
   rcases hl with⟨n,r,e⟩|e
   ·obtain⟨b,cap,rfl,rfl,rfl,a4,a5⟩:=HA.out n r e hd.1;have HI:=show Hid (Sa 142 #[bP g] W (λI w'=>I=.returned (.pointer (some ⟨b,r.length*3,none⟩))/\Se W w'))from a4
    have HO:=show Hid (∀V,Se W V->Sa 145 #[bP g,.pointer (some ⟨b,r.length*3,none⟩)] V λI w'=>I=.returned (.tuple #[])/\Mv S g W w' G)from a5
    clear a4 a5 HA HQ J e H hd
    go_wp2_with(first|(go_at_call 142;refine HI.out.mono ?_;rintro r1 M⟨rfl,H⟩;have HB:=show Hid (Se W M)from H;clear H)|(go_at_call 145;refine(HO.out _ HB.out).mono ?_;rintro r2 w2⟨rfl,m2⟩;have HM:=show Hid (Mv S g W w2 G)from m2;clear m2))
    go_meet
    exact HM
   ·exact absurd e hd.2
  |false=>
   have HM:=aW (HQ.out (Uy H));clear HA HQ J H hl;(go_wp2_with fail)
   go_meet
   exact HM
 case rest=>
  obtain⟨S1,t1,u1⟩:=Mw.seq hcut.out.w;obtain⟨M,hw1⟩:∃M,M=wc:=⟨wc,rfl⟩;subst hw1;have ai:=show Hid (SS S1 M g G/\∀W2 al,Mw S1 g M W2 al->Mw S g W W2 al)from⟨t1,u1⟩
  obtain⟨vn,vw,O,v1,v2⟩:=t1.ex;obtain⟨c0,c1,c2,c3,c4,c5,c6,c7⟩:=O.sb.cells;have f3:=O.sb.frozen 3;have f4:=O.sb.frozen 4;obtain⟨pw,cw,evw,_⟩:=bv O.rd;subst evw
  have Q:Hid (kE k=true/\G.mr=none->Mv S1 g M ((M.setCell ⟨g,3,none⟩ (.bool true)).setCell ⟨g,4,none⟩ (Tu G.ws.length)) u):=λhd=>by
   have:=t1.mark G.ws.length;have e8:u={ G with mr:=some G.ws.length }:=by rw[<-HZ.out.2.2];unfold Sy.mark;rw[Or hd]
   rw[e8];exact this
  have Y:Hid (¬(kE k=true/\G.mr=none)->Mv S1 g M M u):=λhd=>by
   have e8:u=G:=by rw[<-HZ.out.2.2];unfold Sy.mark;rw[Eq hd]
   rw[e8];exact Mv.refl t1
  clear t1 u1 hcut HA HQ H hl J ad v1 v2 O c0 c1 c5 c6 c7;obtain⟨b2,Z⟩:∃b2:Bool,decide (kE k=true/\G.mr=none)=b2:=⟨_,rfl⟩;go_upto_region 2 with fail
  go_cut [26]from 18 to 26 (λt wx=>t=.bool b2/\wx=M)
  case first=>
   have HX:=aW Z;clear Z;cases hh:kE k with
   |false=>
    have HY:Hid (false=b2):=by rw[<-HX.out,R9 (λh=>by rw[hh]at h;cases h.1)];exact rfl
    rw[hh]at HH;clear HX Q Y hh
    go_wp2_with(go_at_call 146;refine(HH.out _).mono ?_;rintro r1 w2⟨rfl,rfl⟩)
    go_meet
    exact⟨by rw[HY.out],rfl⟩
   |true=>
    rw[hh]at HH;cases hm:G.mr with
    |none=>
     have HY:Hid (true=b2):=by rw[<-HX.out,R8 ⟨hh,hm⟩];exact rfl
     rw[hm]at c3;clear HX Q Y hh hm
     go_wp2_with(go_at_call 146;refine(HH.out _).mono ?_;rintro r1 w2⟨rfl,rfl⟩)
     go_meet
     exact⟨by rw[HY.out],rfl⟩
    |some q=>
     have HY:Hid (false=b2):=by rw[<-HX.out,R9 (λh=>by rw[hm]at h;cases h.2)];exact rfl
     rw[hm]at c3;clear HX Q Y hh hm
     go_wp2_with(go_at_call 146;refine(HH.out _).mono ?_;rintro r1 w2⟨rfl,rfl⟩)
     go_meet
     exact⟨by rw[HY.out],rfl⟩
  case rest=>
  obtain⟨rfl,aa⟩:=hcut;replace aa:=aa.symm;subst aa
  go_upto_if 26 with fail
  go_cut []from 27 to 37 (λwx=>Hid (Mv S1 g M wx u))
  case first=>
   cases b2 with
   |true=>
    have HM:=show Hid (Mv S1 g M ((M.setCell ⟨g,3,none⟩ (.bool true)).setCell ⟨g,4,none⟩ (Tu G.ws.length)) u)from Q.out (SE Z)
    clear Q Y Z;(go_wp2_with fail)
    go_meet
    exact HM
   |false=>
    have HM:=show Hid (Mv S1 g M M u)from Y.out (Uy Z)
    clear Q Y Z;(go_wp2_with fail)
    go_meet
    exact HM
  case rest=>
   obtain⟨S2,t2,u2⟩:=Mw.seq hcut.out.w;obtain⟨w2,hw2⟩:∃w2,w2=wc:=⟨wc,rfl⟩;subst hw2;obtain⟨vn,vw,O,v1,v2⟩:=t2.ex;obtain⟨c0,c1,c2,c3,c4,c5,c6,c7⟩:=O.sb.cells;have an:=O.sb.lt;obtain⟨pn,cn,evn,_⟩:=aG O.rn;subst evn;have ap:=HZ.out.2.1.2.1;have HR:Hid (Rn tN (w2.alloc (.cells #[.int .u8 k,Tu 0,.bool false] 238)) (.slice pn u.ns.length cn) u.ns):=aU O.rn ((gt _ _).alloc (ge _) _)
   have HP:Hid (∀v' w3,Rn tN w3 v' (⟨k,0,false⟩ :: u.ns)->(w2.alloc (.cells #[.int .u8 k,Tu 0,.bool false] 238)).grownBy w3 (Value.slice pn u.ns.length cn).ownBlock->Nb (w2.alloc (.cells #[.int .u8 k,Tu 0,.bool false] 238)) (.slice pn u.ns.length cn) v'->(w3.cell? (Tw g 1)=some (.slice pn u.ns.length cn)/\w3.frozen? (Tw g 1)=false)/\Mw S g W (w3.setCell ⟨g,1,none⟩ v') { u with ns:=⟨k,0,false⟩ :: u.ns }):=λv' w3 a1 a2 a3=>by
    obtain⟨b1,b2⟩:=O.push t2.sg v1 v2 ((gt _ _).alloc (ge _) _) a2 a1 a3;exact⟨b1,ai.out.2 _ _ (u2 _ _ b2)⟩
   have HB:Hid (∀V,Mw S g W V { u with ns:=⟨k,0,false⟩ :: u.ns }->∀(i:Int) (p:Pz),p.d=dI i false/\p.n=1->Sa 147 #[bP g,Tu i,.bool false] V λI w'=>I=.returned (.tuple #[])/\Mw S g W w' (Sy.aw { u with ns:=⟨k,0,false⟩ :: u.ns } p)):=λV hV i p hp=>by
    obtain⟨S3,t3,u3⟩:=Mw.seq hV;have z:=HZ.out.2.1
    refine(eo t3 p hp (by simp) (by have:=z.1;show u.ws.length<=_;omega) (by have:=z.2.1;show((⟨k,0,false⟩:Nd) :: u.ns).length<=_;simp;omega) (λn hn=>by
     rcases Sm.1 hn with rfl|hn
     ·simp
     ·have:=z.2.2 n hn;omega)).mono ?_
    rintro I w'⟨rfl,m⟩;exact⟨rfl,u3 _ _ m.w⟩
   clear t2 u2 hcut Q Y Z O v1 v2 c0 c2 c3 c4 c5 c6 c7 f3 f4 ai HZ HH
   go_upto_region 5 with(at_builtin;refine P7 rfl _ _ rfl (.slice pn u.ns.length cn) u.ns ⟨k,0,false⟩ rfl HR.out w2.heap.size 1 rfl (ak w2 _) (by omega) ?_;intro v' w3 a1 a2 a3;obtain⟨p3,c3,ev,_⟩:=aG a1;obtain⟨⟨x1,x2⟩,x3⟩:=HP.out v' w3 a1 a2 a3;subst ev;have HM:=show Hid (Mw S g W (w3.setCell ⟨g,1,none⟩ (.slice p3 (u.ns.length+1) c3)) { u with ns:=⟨k,0,false⟩ :: u.ns })from x3;clear x3 a1 a2 a3)
   clear HR HP
   by_cases k1:k=21\/k=22\/k=23\/k=24
   ·have ab:Hid (uk k=[.I 0]):=by show _=_;unfold uk;rw[Or k1]
    have af:=show Hid (Sa 147 #[bP g,Tu 0,.bool false] (w3.setCell ⟨g,1,none⟩ (.slice p3 (u.ns.length+1) c3)) λI w'=>I=.returned (.tuple #[])/\Mw S g W w' (Sy.aw { u with ns:=⟨k,0,false⟩ :: u.ns } (.I 0)))from HB.out _ HM.out 0 (.I 0) ⟨rfl,rfl⟩
    clear HB HM
    rcases k1 with rfl|rfl|rfl|rfl
    all_goals(
     go_wp2_with(go_at_call 147;refine af.out.mono ?_;rintro r4 w4⟨rfl,m4⟩;have HE:=aW m4;clear m4)
     go_end0;exact⟨rfl,by rw[ab.out];exact HE.out⟩)
   ·by_cases k2:k=14\/k=7\/k=11
    ·have ab:Hid (uk k=[.I 2]):=by show _=_;unfold uk;rw[Eq k1,Or k2]
     have af:=show Hid (Sa 147 #[bP g,Tu 2,.bool false] (w3.setCell ⟨g,1,none⟩ (.slice p3 (u.ns.length+1) c3)) λI w'=>I=.returned (.tuple #[])/\Mw S g W w' (Sy.aw { u with ns:=⟨k,0,false⟩ :: u.ns } (.I 2)))from HB.out _ HM.out 2 (.I 2) ⟨rfl,rfl⟩
     clear HB HM k1
     rcases k2 with rfl|rfl|rfl
     all_goals(
      go_wp2_with(go_at_call 147;refine af.out.mono ?_;rintro r4 w4⟨rfl,m4⟩;have HE:=aW m4;clear m4)
      go_end0;exact⟨rfl,by rw[ab.out];exact HE.out⟩)
    ·have ab:Hid (uk k=[]):=by show _=_;unfold uk;rw[Eq k1,Eq k2]
     simp only[not_or]at k1 k2;have q1:(k==21)=false:=by simpa using k1.1
     have q2:(k==22)=false:=by simpa using k1.2.1
     have q3:(k==23)=false:=by simpa using k1.2.2.1
     have q4:(k==24)=false:=by simpa using k1.2.2.2
     have q5:(k==14)=false:=by simpa using k2.1
     have q6:(k==7)=false:=by simpa using k2.2.1
     have q7:(k==11)=false:=by simpa using k2.2.2
     clear HB k1 k2;(go_wp2_with fail);go_end0;exact⟨rfl,by rw[ab.out];exact HM.out⟩
