import Derived.Deep.Cut
import Derived.Deep.CutRange
import Derived.Test.YthfjlkfeeglfmaaGreatDoorM04
set_option linter.all false
set_option maxHeartbeats 4000000
set_option maxRecDepth 100000
namespace Go.Proofs.YthfjlkfeeglfmaaGreatDoor.Lx
open Go.Proofs.Tryz
open Go.RowKit
variable {s:ByteArray}{a y g f m k q x b:Nat}{w0 W W' w':World}{l:List Tv}{o:Bool}{p n:Int}
def TP (w0 w':World) (g:Nat) (s:ByteArray) (k a f:Nat) (l:List Tv):Prop:=
 if(aq s a k).2=0 then Rs w0 w' g s (aq s a k).1 a 0 (l++[tv s (dM s k a (aq s a k).1 f)])
 else ∃a',bd s a'/\a<=a'/\Rs w0 w' g s a' a f l/\((aq s a k).2=102->a'=(aq s a k).1)
def TP.ok (u:aq s a k=(y,0)) (h:Rs w0 w' g s y a 0 (l++[tv s (dM s k a y f)])):TP w0 w' g s k a f l:=by
 unfold TP;rw[u,Or rfl];exact h
def TP.bad {e a':Nat}(G:aq s a k=(y,e)) (J:e≠0) (I:bd s a') (H:a<=a') (h:Rs w0 w' g s a' a f l) (u:e=102->a'=y):TP w0 w' g s k a f l:=by
 unfold TP;rw[G,Eq J];exact⟨a',I,H,h,u⟩
def dD (w:World) (g k:Nat):Nat:=match w.cell? ⟨g,k,none⟩with
 |some (.int _ n)=>n.toNat
 |_=>0
def iP {w:World}{n:Nat}(h:w.cell? (Tw g k)=some (Tu (n:Nat))):dD w g k=n:=by
 unfold dD;rw[h];simp
def Rs.at (h:Rs w0 W g s a b f l):dD W g 1=a:=by
 obtain⟨G,H,v,u,I⟩:=h;exact iP (Rq.cells u).2.1
def GF (s:ByteArray) (y:Nat) (h:gd s y=false):dp s y=65533:=by unfold dp;rw[NY s y h]
def No:pX (-1)=false:=by decide
def Np:pX 65533=false:=by decide
def NK:jL 65533=false:=by decide
def Kl (s:ByteArray) (y:Nat):pX (aY s y)=(decide (y<s.size)&&(gd s y&&pX (dp s y))):=by
 by_cases h:y<s.size
 ·rw[fZ h,R8 h,TB];cases e:gd s y with
  |true=>rfl
  |false=>rw[GF s y e];exact Np
 ·rw[kr (by omega),R9 h,No];rfl
def dC (s:ByteArray) (y:Nat) (h:y<s.size):jL (aY s y)=(gd s y&&jL (dp s y)):=by
 rw[fZ h];cases e:gd s y with
 |true=>rfl
 |false=>rw[GF s y e];exact NK
def dg (s:ByteArray) (y:Nat):(decide (48<=aY s y)&&decide (aY s y<=57))=(decide (y<s.size)&&dF (aK s y)):=by
 by_cases h:y<s.size
 ·rw[fZ h,R8 h,TB];unfold dF;rw[Ty];simp only[Sf,So];constructor
  ·rintro⟨u,G⟩;have:=Hc s y (by omega);omega
  ·rintro⟨u,G⟩;have:=(bZ s y (by omega)).2.1;omega
 ·rw[kr (by omega),R9 h];rfl
def bB (s:ByteArray) (y c:Nat) (hc:c<128) (h:y<s.size):aY s y=(c:Int)↔aK s y=c:=by
 rw[fZ h];constructor
 ·intro e;exact(Mt s y c hc).1 (by omega)
 ·intro e;have:=(Mt s y c hc).2 e;omega
def cN (s:ByteArray) (y:Nat):aY s y=-1↔s.size<=y:=by
 by_cases h:y<s.size
 ·rw[fZ h];constructor<;>intro _<;>omega
 ·rw[kr (by omega)];constructor<;>intro _<;>first|omega|rfl
def Hk (s:ByteArray) (y:Nat) (h:y<s.size):(decide (aY s y<32)||decide (aY s y=127))=jG s y:=by
 rw[fZ h];unfold jG;cases e:gd s y with
 |true=>grind
 |false=>rw[GF s y e];rfl
def PP (s:ByteArray) (y:Nat) (h:y<s.size):qi (aY s y)=dY (aK s y):=by
 unfold qi dY;rw[Ty];simp only[SC,So,T8];have u:=bB s y 32 (by decide) h;have G:=bB s y 9 (by decide) h;have H:=bB s y 13 (by decide) h;constructor
 ·grind
 ·grind
def Na {E:Nat × Nat}(G:x<s.size) (h:run (dJ s a k) s.size x m=E) (u:dJ s a k x m=.on (dw s x)):x+dw s x<=s.size/\run (dJ s a k) s.size (x+dw s x) (m+1)=E:=by
 refine⟨(aQ s x G).2.2,?_⟩;rw[<-se (nP s a k) (by omega) u];exact h
def uZ {E:Nat × Nat}(G:y<=s.size) (h:run (dJ s a k) s.size y m=E) (hc:s.size<=y\/(k=1/\(gd s y&&pX (dp s y))=false)\/(k=3/\dF (aK s y)=false)):E=(y,0):=by
 rw[<-h];refine dO G ?_;unfold dJ
 by_cases u:s.size<=y
 ·rw[Or u]
 ·rw[Eq u,Or (hc.resolve_left u)]
def vf {E:Nat × Nat}(G:y<s.size) (h:run (dJ s a k) s.size y m=E) (hc:¬((k=1/\(gd s y&&pX (dp s y))=false)\/(k=3/\dF (aK s y)=false))) (u:65535<y+dw s y-a):E=(a,103):=by
 rw[<-h];refine dO (by omega) ?_;unfold dJ;rw[Eq (by omega),Eq hc,Or u]
def sj (G:y<s.size) (hc:¬((k=1/\(gd s y&&pX (dp s y))=false)\/(k=3/\dF (aK s y)=false))) (u:¬65535<y+dw s y-a):dJ s a k y m=.on (dw s y):=by
 unfold dJ;rw[Eq (by omega),Eq hc,Eq u]
def oS {E:Nat × Nat}(u:y<=s.size) (h:run (dr s a q o) s.size y m=E) (hc:s.size<=y\/aK s y=10):E=(a,101):=by
 rw[<-h];refine dO u ?_;unfold dr;rw[Or hc]
def Fj {E:Nat × Nat}(G:y<s.size) (h:run (dr s a q o) s.size y m=E) (hc:aK s y≠10) (u:65535<y+dw s y-a):E=(a,103):=by
 rw[<-h];refine dO (by omega) ?_;unfold dr;rw[Eq (by rintro(h|h);omega;exact hc h),Or u]
def Ag {E:Nat × Nat}(H:y<s.size) (h:run (dr s a q o) s.size y m=E) (hc:aK s y≠10) (u:¬65535<y+dw s y-a) (G:aK s y=q/\(o=false\/m=1)):E=(y+1,0):=by
 rw[<-h];refine dO (by omega) ?_;unfold dr;rw[Eq (by rintro(h|h);omega;exact hc h),Eq u,Or G]
def jc {E:Nat × Nat}(I:y<s.size) (h:run (dr s a q o) s.size y m=E) (hc:aK s y≠10) (G:¬65535<y+dw s y-a) (H:¬(aK s y=q/\(o=false\/m=1))) (u:jG s y=true\/(o=true/\(m=1\/aK s y=q))):E=(y,102):=by
 rw[<-h];refine dO (by omega) ?_;unfold dr;rw[Eq (by rintro(h|h);omega;exact hc h),Eq G,Eq H,Or u]
def vu {E:Nat × Nat}(I:y<s.size) (h:run (dr s a q o) s.size y m=E) (hc:aK s y≠10) (G:¬65535<y+dw s y-a) (H:¬(aK s y=q/\(o=false\/m=1))) (u:¬(jG s y=true\/(o=true/\(m=1\/aK s y=q)))):run (dr s a q o) s.size (y+dw s y) (m+1)=E:=by
 rw[<-h];refine(se (nQ s a q o) (by omega) ?_).symm;unfold dr;rw[Eq (by rintro(h|h);omega;exact hc h),Eq G,Eq H,Eq u]
def Ly (m:Nat) (M:y<s.size) (I:o=false->aK s y≠10) (u:o=true->aK s y≠125) (J:y+1-a<=65535):run (cP s a o) s.size y m=run (cP s a o) s.size (y+1) (m+1):=by
 refine se (nR s a o) (by omega) ?_;unfold cP;rw[Eq (by omega),Eq (by rintro⟨G,H⟩;exact I G H),Eq (by omega),Eq (by rintro⟨G,H⟩;exact u G H)]
def tT :∀(i m:Nat),(∀j,j<i->y+j<s.size/\(o=false->aK s (y+j)≠10)/\(o=true->aK s (y+j)≠125)/\y+j+1-a<=65535)->run (cP s a o) s.size y m=run (cP s a o) s.size (y+i) (m+i)
 |0,m,_=>rfl
 |i+1,m,h=>by
  rw[tT i m (λj J=>h j (by omega))];obtain⟨u,G,H,I⟩:=h i (by omega);exact Ly (m+i) u G H I
def yS (s:ByteArray) (y j:Nat) (G:y<s.size) (u:j<dw s y):y+j<s.size/\(j≠0->aK s (y+j)≠10/\aK s (y+j)≠125):=by
 have:=(aQ s y G).2.2;refine⟨by omega,λh=>?_⟩;have:=(lZ s y j (by omega) u).2;omega
def Oj {E:Nat × Nat}(m:Nat) (J:y<s.size) (M:o=false->aK s y≠10) (u:o=true->aK s y≠125) (Q:y+dw s y-a<=65535) (h:run (cP s a o) s.size y m=E):run (cP s a o) s.size (y+dw s y) (m+dw s y)=E:=by
 rw[<-h];refine(tT (dw s y) m (λj H=>?_)).symm;obtain⟨G,O⟩:=yS s y j J H;refine⟨G,λI=>?_,λI=>?_,by omega⟩
 ·grind
 ·grind
def xi {E:Nat × Nat}(m:Nat) (I:y<s.size) (H:o=false->aK s y≠10) (Y:a<=y) (hb:y-a<=65535) (hf:65535<y+dw s y-a) (h:run (cP s a o) s.size y m=E):E=(a,103):=by
 obtain⟨i,hi⟩:∃i,y+i=a+65535:=⟨a+65535-y,by omega⟩;have aW:i<dw s y:=by omega
 obtain⟨d1,d2,Z⟩:=aQ s y I
 have u:∀z m,z<s.size->(o=false->aK s z≠10)->65535<z+1-a->run (cP s a o) s.size z m=(a,103):=by
  intro z m hz M G;refine dO (by omega) ?_;unfold cP;rw[Eq (by omega),Eq (by rintro⟨Q,J⟩;exact M Q J),Or G]
 by_cases S:i=0
 ·rw[<-h];exact u y m I H (by omega)
 ·by_cases c:o=true/\aK s y=125
  ·exfalso
   have:=(bZ s y (by omega)).1;omega
  ·rw[<-h,tT i m (λj hj=>?_)]
   ·have G:=yS s y i I aW;exact u (y+i) _ G.1 (λ_=>(G.2 S).1) (by omega)
   ·obtain⟨M,G⟩:=yS s y j I (by omega);refine⟨M,λO=>?_,λO=>?_,by omega⟩
    ·by_cases e:j=0
     ·subst e;exact H O
     ·exact(G e).1
    ·by_cases e:j=0
     ·subst e;exact λJ=>c ⟨O,J⟩
     ·exact(G e).2
def Hu {E:Nat × Nat}(G:y<=s.size) (h:run (cP s a false) s.size y m=E) (hc:s.size<=y\/aK s y=10):E=(y,0):=by
 rw[<-h];refine dO G ?_;unfold cP
 by_cases u:s.size<=y
 ·rw[Or u];rfl
 ·rw[Eq u,Or ⟨rfl,hc.resolve_left u⟩]
def Ht {E:Nat × Nat}(u:y<=s.size) (h:run (cP s a true) s.size y m=E) (hc:s.size<=y):E=(a,101):=by
 rw[<-h];refine dO u ?_;unfold cP;rw[Or hc];rfl
def Dz {E:Nat × Nat}(I:y<s.size) (h:run (cP s a true) s.size y m=E) (hc:aK s y=125) (H:y+1-a<=65535):E=(y+1,0):=by
 rw[<-h];refine dO (by omega) ?_;unfold cP;rw[Eq (by omega),Eq (by rintro⟨u,G⟩;cases u),Eq (by omega),Or ⟨rfl,hc⟩]
def Rq.told {v v':Value}(J:Below w0.heap.size w0 W) (G:w0.heap.size<=g) (H:RB W g s a p n b f v) (I:Rt w0.heap.size W v' l) :
  Rq w0 ((W.setCell ⟨g,8,none⟩ v').setCell ⟨g,7,none⟩ (Tu 0)) g s a p n b 0 l:=by
 have u:=I.ne H (by decide);refine⟨(J.setCell (p:=(Tw g 8)) G _).setCell (p:=(Tw g 7)) G _,G,v',?_,?_⟩
 ·exact ag (ag H 8 _) 7 _
 ·exact(I.kp (Kp.set _ g 8 _) u).kp (Kp.set _ g 7 _) u
def Eu {M:Array Oper}{o:Oper}{a:Act}{K:Act->World->Prop}{Q:Exit->Act->World->Prop}{E:Prop}(G:o.guard=none) (s x:Operand)
  (ho:o.op=.call { callee:=.builtin .append,args:=#[s,x],argTypes:=#[89,89] }) (B:Nat) (v:Value) (l:List Tv) (d:Tv) (hs:a.eval s=v) (Y:Rt B W v l)
  (g c:Nat) (hx:a.eval x=.slice (some (Tw g 0)) 1 c) (hg:W.heap[g]?=some (.cells #[.int .u8 d.k,.string d.t,Tu d.a,Tu d.l,Tu d.c,Tu d.f] 49 (0,0))) (hl:l.length<=2147483647) (S:B<=W.heap.size)
  (h:∀q cap w',Rt B w' (.slice (some (Tw q 0)) (l.length+1) cap) (l++[d])->Below B W w'->W.grownBy w' v.ownBlock->K (a.put o.dst (.slice (some (Tw q 0)) (l.length+1) cap)) w') :
  if Region.wanted o (yielded M a.tmps)=true then Oper.wp Tryz.prog o a W K Q else E:=by
 obtain⟨i0,hi,H,I,J⟩:=Tf Tryz.info49;refine Uw W G s x 89 ho B 49 i0 _ 6 56 underlying89 hi H I J rfl (by decide) v _ _ hs Y (Tw g 0) 1 c (IQ [d]) hx (by rw[Js];rfl) ?_ (Jr [d]) (by omega) (by unfold maxLen;omega) (by omega) S _ rfl ?_
 ·intro j u Z;refine Ta hg j u ?_;have e:IQ [d]=[.int .u8 d.k,.string d.t,Tu d.a,Tu d.l,Tu d.c,Tu d.f]:=by simp[IQ,ap,Tv.cs]
  rw[e]at Z
  simpa using Z
 ·intro q cap w' a1 O a3 _;refine h q cap w' ?_ ((gt B W).grown O S Y.own) O;unfold Rt;rw[IO,Jt];exact a1
def BV (h:Rq w0 W g s a p n b f l) (k:Nat) (T:ByteArray) (S:(if k=7 then s.extract b (bJ s a)else s.extract b a)=T) (h7:k=7->b<a/\dY (aK s b)=false) (hs:s.size<=2147483647) (ah:b<=a) (ha:a<=s.size) (hl:l.length<=2147483647) :
  Sa 191 #[.pointer (some (Tw g 0)),.int .u8 k] W λe w'=>Uk e (Tu 0)/\Rq w0 w' g s a p n b 0 (l++[⟨k,T,b,pL s b,pC s b,f⟩]):=by
 obtain⟨h1,h2,v,h3,h4⟩:=h
 have ag:T.size<=2147483647:=by
  rw[<-S];have:=gm s a
  split
  ·rw[aE s b _ (by omega)];omega
  ·rw[aE s b a ha];omega
 obtain⟨U,Y⟩:=ea (s.extract b a)
 have ae:Hid (k=7->∀V,Sa 226 #[.string U,.string ⟨#[32,9,13]⟩] V λe w'=>Uk e (.string T)/\Se V w'):=λG V=>by
  have h8:=Ea U V (by rw[<-Y,aE s b a ha];omega);rw[Or G]at S;rw[<-Y,Jj s b a (h7 G).1 ha (h7 G).2,S]at h8;rw[<-Y];exact h8
 have ad:Hid (k≠7->U=T):=λG=>by rw[Eq G]at S;rw[<-Y];exact S
 have HB:Hid (Sa 197 #[.pointer (some (Tw g 0))] W λe w'=>Uk e (.string U)/\∃m,w'=W.drewN m):=by rw[<-Y];exact jy h3 hs ah ha
 have HC:Hid (∀V,Sa 227 #[.string T] V λe w'=>Uk e (.string T)/\Se V w'):=λV=>DE T V ag
 have HK:Hid (∀V,Se W V->Se w0 V/\RB V g s a p n b f v/\Rt w0.heap.size V v l):=λV H=>⟨h1.trans (H.mono h1.size),af h3 H,h4.below H⟩
 obtain⟨vp,Z,rfl,an,ap⟩:=h4.shape;clear h1 h3 h4 S h7 Y;go_enter func191,ntmps191
 go_upto_if 9 with(first|(go_at_call 197;refine HB.out.mono ?_;rintro e w1⟨rfl,m,hw⟩;have u:=dv W m;rw[<-hw]at u;clear hw))
 go_cut [5]from 9 (λt wx=>t=.string T/\Hid (Below W.heap.size W wx))
 case first=>
  by_cases G:k=7
  ·have q1:((k:Int)==7)=true:=by simp;omega
   have J:=aW G;clear G
   go_wp2_with(first|(go_at_call 226;refine(ae.out J.out _).mono ?_;rintro e w2⟨rfl,M⟩))
   go_meet
   exact⟨rfl,u.trans (M.mono u.size)⟩
  ·have q1:((k:Int)==7)=false:=by simp;omega
   have J:=aW G;clear G;(go_wp2_with fail)
   go_meet
   exact⟨by rw[ad.out J.out],u⟩
 case rest=>
  obtain⟨rfl,HW⟩:=hcut;have u:=HW.out;(go_wp2_with fail);have I:=aW λV (H:Se wc V)=>HK.out V (u.trans (H.mono u.size))
  obtain⟨_,k3,_⟩:=I.out _ (gt _ _);obtain⟨c0,c1,c2,c3,c4,c5,c6,c7,c8⟩:=Rq.cells k3;have am:=ai k3;clear HK HB u k3 c0 c1 c2 c3
  have HA:Hid (∀V q cap w',Se wc V->Rt w0.heap.size w' (.slice (some (Tw q 0)) (l.length+1) cap) (l++[⟨k,T,b,pL s b,pC s b,f⟩])->Below w0.heap.size V w'->V.grownBy w' (Value.slice vp l.length Z).ownBlock->RB w' g s a p n b f (.slice vp l.length Z)/\Se w0 w'):=λV q cap w' hV hr H hg=>by
   obtain⟨x1,x3,x4⟩:=I.out _ hV;exact⟨(Kp.of_grown hg).blk x3 (λe=>x4.ne x3 (by decide) _ e.symm rfl),x1.trans H⟩
  go_region_law (first|(go_simp;go_at_call 227;refine(HC.out _).mono ?_;rintro e w2⟨rfl,M⟩;have O:Below wc.heap.size wc w2:=(gt wc.heap.size wc).drew.trans (M.mono (ge _));obtain⟨y1,y3,yr⟩:=I.out _ O;obtain⟨_,_,_,_,y4,y5,y6,y7,y8⟩:=Rq.cells y3;have al:=ai y3;have aj:=y1.size)|(refine Eu (by rfl) _ _ (by rfl) w0.heap.size (.slice vp l.length Z) l ⟨k,T,b,pL s b,pC s b,f⟩ (by rfl) (yr.below ((gt _ _).alloc (ge _) _)) w2.heap.size 1 (by rfl) (ak _ _) hl (by rw[RT];exact Nat.le_succ_of_le aj) ?_;intro q cap w3 Q ab ac;obtain⟨z3,z1⟩:=HA.out _ _ _ _ (O.alloc O.size _) Q ab ac;have HF:=aW (Rq.told z1 h2 z3 Q);have zf:=z3.frozen 8;have zc:w3.cell? (Tw g 8)=some (.slice vp l.length Z):=aa z3 rfl;have zg:=z3.frozen 7;have zd:w3.cell? (Tw g 7)=some (Tu f):=aa z3 rfl;clear Q ab ac z3 z1 y1 y3 yr))
  all_goals(
   (go_wp2_with fail);go_ret;exact⟨rfl,HF.out⟩)
def cI (h:Rs w0 W g s y a f l) (k:Nat) (I:s.size<=2147483647) (u:a<=y) (J:y<=s.size) (hl:l.length<=2147483647) (G:k=7->a<y/\dY (aK s a)=false) :
  Sa 191 #[.pointer (some (Tw g 0)),.int .u8 k] W λe w'=>Uk e (Tu 0)/\Rs w0 w' g s y a 0 (l++[tv s ⟨k,a,if k=7 then bJ s y else y,f⟩]):=by
 refine(BV h k _ rfl G I u J hl).mono ?_;rintro e w'⟨rfl,H⟩;refine⟨rfl,?_⟩
 have e:tv s ⟨k,a,if k=7 then bJ s y else y,f⟩=⟨k,if k=7 then s.extract a (bJ s y)else s.extract a y,a,pL s a,pC s a,f⟩:=by
  unfold tv
  by_cases e:k=7
  ·simp only[Or e]
  ·simp only[Eq e]
 rw[e];exact H
def PV (h:au s a=3):dF (aK s a)=true:=by
 unfold au at h
 repeat' split at h
 all_goals first|assumption|(cases h;done)
def PW (h:au s a=1):(gd s a&&jL (dp s a))=true:=by
 unfold au at h
 repeat' split at h
 all_goals first|assumption|(cases h;done)
def PU (h:au s a=4):aK s a=34:=by
 unfold au at h
 repeat' split at h
 all_goals first|assumption|(cases h;done)
def PT (h:au s a=5):aK s a=39:=by
 unfold au at h
 repeat' split at h
 all_goals first|assumption|(cases h;done)
def Ov (h:au s a=7):aK s a=47/\a+1<s.size/\aK s (a+1)=47:=by
 unfold au at h
 repeat' split at h
 all_goals first|assumption|(cases h;done)
def PR (h:au s a=8):aK s a=123:=by
 unfold au at h
 repeat' split at h
 all_goals first|assumption|(cases h;done)
def Oh {c:Nat}(h:dF c=true):48<=c/\c<=57:=by
 unfold dF at h
 simpa using h
structure JN (w0 W:World) (g:Nat) (s:ByteArray) (k a f:Nat) (l:List Tv) (x:Nat):Prop where
 ax:a<=x
 xs:x<s.size
 bx:bd s x
 rs:Rs w0 W g s x a f l
 on:∃m,run (dJ s a k) s.size x m=aq s a k/\dJ s a k x m=.on (dw s x)
def JN.next (h:JN w0 W g s k a f l x) (G:Rs w0 W' g s (x+eH s x) a f l) :
  ∃y,x<y/\a<=y/\y<=s.size/\bd s y/\Rs w0 W' g s y a f l/\∃m,run (dJ s a k) s.size y m=aq s a k:=by
 obtain⟨M,u,H,O,m,I,J⟩:=h;obtain⟨e1,e2⟩:=Na u I J;have d:=(aQ s x u).1;rw[bW u]at G;exact⟨x+dw s x,by omega,by omega,e1,jz H u,G,m+1,e2⟩
def Kq (h:Rs w0 W g s a a f l) (hs:s.size<=2147483647) (ha:a<s.size) (hb:bd s a) (hk:au s a=3) (hl:l.length<=2147483647) :
  Sa 129 #[.pointer (some (Tw g 0))] W λe w'=>Uk e (Tu ((aq s a 3).2:Nat))/\TP w0 w' g s 3 a f l:=by
 have hd:=PV hk;have af:=Oh hd;have hE:aq s a 3=run (dJ s a 3) s.size a 0:=by unfold aq;simp
 have u:=(bZ s a (by omega)).1;have aa:JN w0 W g s 3 a f l a:=⟨ge _,ha,hb,h,0,hE.symm,sj ha (by rintro(⟨h,_⟩|⟨_,h⟩);cases h;rw[hd]at h;cases h) (by omega)⟩
 have HT:Hid (∀V x,JN w0 V g s 3 a f l x->Sa 188 #[.pointer (some (Tw g 0))] V λe w'=>Uk e (.tuple #[])/\∃y,x<y/\a<=y/\y<=s.size/\bd s y/\Rs w0 w' g s y a f l/\∃m,run (dJ s a 3) s.size y m=aq s a 3):=λV x hx=>by
  refine(ce hx.rs hs (Tl hx.xs)).mono ?_;rintro e w'⟨rfl,O⟩;exact⟨rfl,hx.next O⟩
 have HD:=aW bG
 have HP:Hid (∀V y,Rs w0 V g s y a f l->a<=y->y<=s.size->(Sa 191 #[.pointer (some (Tw g 0)),.int .u8 3] V λe w'=>Uk e (Tu 0)/\Rs w0 w' g s y a 0 (l++[tv s (dM s 3 a y f)]))/\(Sa 193 #[.pointer (some (Tw g 0))] V λe w'=>Uk e (.bool (decide (65535<y+eH s y-a)))/\Rs w0 w' g s y a f l)):=λV y O h1 h2=>by
  constructor
  ·exact cI O 3 hs h1 h2 hl (by intro h;cases h)
  ·obtain⟨Y,Z,v,h3,h4⟩:=O;refine(fD h3 hs h1 h2 (by by_cases e:y<s.size;rw[bW e];exact(aQ s y e).2.1;rw[fO (by omega)];omega)).mono ?_;rintro e w'⟨rfl,hb⟩;exact⟨rfl,Rq.below ⟨Y,Z,v,h3,h4⟩ hb⟩
 have HC:Hid (∀V y,Rs w0 V g s y a f l->V.cell? (Tw g 2)=some (.int .i32 (aY s y))):=λV y O=>by
  obtain⟨Y,Z,v,h3,h4⟩:=O;exact(Rq.cells h3).2.2.1
 have c2:=HC.out _ _ h;have q0:(decide (48<=aY s a)&&decide (aY s a<=57))=true:=by rw[dg,R8 ha,hd];rfl
 have ad:=aW aa;have ac:Hid (Sa 128 #[.int .i32 (aY s a)] W λe w'=>Uk e (.bool true)/\w'=W):=by rw[<-q0];exact bG _ _
 clear hd af hE u aa h hk q0;go_enter func129,ntmps129;(go_wp2_with fail);refine Ux 0 (λa' w'=>∃(x:Nat) (u1 u2 u3 u4 u5 u6 u7 u8 u9 u10 u11 u12 u13 u14 u15 u16 u17 u18 u19 u20 u21 u22 u23 u24 u25 u26 u27 u28 u29 u30 u31 u32 u33 u34 u35 u36 u37 u38:Value),Hid (JN w0 w' g s 3 a f l x)/\a'={ tmps:=#[.pointer (some (Tw g 0)),u1,u2,u3,u4,u5,u6,u7,u8,u9,u10,u11,u12,u13,u14,u15,u16,u17,u18,u19,u20,u21,u22,u23,u24,u25,u26,u27,u28,u29,u30,u31,u32,u33,u34,u35,u36,u37,u38],defers:=[] }) (λ_ w'=>s.size-dD w' g 1) rfl ?_ ?_
 ·go_wp2_with(first|(go_at_call 128;refine ac.out.mono ?_;rintro e J⟨rfl,u⟩;replace u:=u.symm;subst u))
  go_step3
  exact⟨rfl,a,_,_,_,_,_,_,_,_,_,_,_,_,_,_,_,_,_,_,_,_,_,_,_,_,_,_,_,_,_,_,_,_,_,_,_,_,_,_,ad,rfl⟩
 ·rintro a' w'⟨x,u1,u2,u3,u4,u5,u6,u7,u8,u9,u10,u11,u12,u13,u14,u15,u16,u17,u18,u19,u20,u21,u22,u23,u24,u25,u26,u27,u28,u29,u30,u31,u32,u33,u34,u35,u36,u37,u38,HJ,rfl⟩;have HX:Hid (dD w' g 1=x/\x<s.size):=⟨HJ.out.rs.at,HJ.out.xs⟩;(go_wp2_with fail);refine(HT.out _ _ HJ.out).mono ?_;rintro e J⟨rfl,y,y1,y2,y3,y4,y5,m,y6⟩;have z2:=HC.out _ _ y5;obtain⟨t1,t2⟩:=HP.out _ _ y5 y2 y3;have S:Hid (Rs w0 J g s y a f l/\bd s y/\run (dJ s a 3) s.size y m=aq s a 3):=⟨y5,y4,y6⟩;clear HJ y5 y4 y6 c2
  by_cases hc:(decide (48<=aY s y)&&decide (aY s y<=57))=true
  ·have I:Hid (Sa 128 #[.int .i32 (aY s y)] J λe w'=>Uk e (.bool true)/\w'=J):=by rw[<-hc];exact bG _ _
   have ab:=hc;rw[dg,Sf,So]at ab;obtain⟨d1,d2⟩:=ab
   have HN:Hid (¬((3=1/\(gd s y&&pX (dp s y))=false)\/((3:Nat)=3/\dF (aK s y)=false))):=by
    show ¬_;rintro(⟨h,_⟩|⟨_,h⟩)
    ·cases h
    ·rw[d2]at h;cases h
   have G:=aW t2;rw[bW d1]at G;clear hc t1 t2
   by_cases M:65535<y+dw s y-a
   ·have Q:=aW (vf d1 S.out.2.2 HN.out M);rw[R8 M]at G;clear M
    go_wp2_with(first|(go_at_call 128;refine I.out.mono ?_;rintro e w2⟨rfl,u⟩;replace u:=u.symm;subst u)|(go_at_call 193;refine G.out.mono ?_;rintro e w3⟨rfl,hr3⟩))
    simp only[Exit.jump];go_ret;rw[Q.out];exact⟨rfl,TP.bad Q.out (by decide) S.out.2.1 y2 hr3 (by intro h;cases h)⟩
   ·have HO:Hid (dJ s a 3 y m=.on (dw s y)):=sj d1 HN.out M;rw[R9 M]at G;clear M
    go_wp2_with(first|(go_at_call 128;refine I.out.mono ?_;rintro e w2⟨rfl,u⟩;replace u:=u.symm;subst u)|(go_at_call 193;refine G.out.mono ?_;rintro e w3⟨rfl,hr3⟩))
    go_step3
    refine⟨rfl,⟨y,_,_,_,_,_,_,_,_,_,_,_,_,_,_,_,_,_,_,_,_,_,_,_,_,_,_,_,_,_,_,_,_,_,_,_,_,_,_,⟨y2,d1,S.out.2.1,hr3,m,S.out.2.2,HO.out⟩,rfl⟩,?_⟩;rw[HX.out.1,hr3.at];have:=HX.out.2;omega
  ·have H:(decide (48<=aY s y)&&decide (aY s y<=57))=false:=by simpa using hc
   have I:Hid (Sa 128 #[.int .i32 (aY s y)] J λe w'=>Uk e (.bool false)/\w'=J):=by rw[<-H];exact bG _ _
   have Q:Hid (aq s a 3=(y,0)):=by
    refine uZ y3 S.out.2.2 ?_;rw[dg]at H
    by_cases e:y<s.size
    ·rw[R8 e,TB]at H;exact .inr (.inr ⟨rfl,H⟩)
    ·exact .inl (by omega)
   have ae:=aW t1;clear hc H t1 t2
   go_wp2_with(first|(go_at_call 128;refine I.out.mono ?_;rintro e w2⟨rfl,u⟩;replace u:=u.symm;subst u)|(go_at_call 191;refine ae.out.mono ?_;rintro e w3⟨rfl,hr3⟩))
   simp only[Exit.jump];go_ret;rw[Q.out];exact⟨rfl,TP.ok Q.out hr3⟩
def F4 (hK:pT w0) (h:Rs w0 W g s a a f l) (hs:s.size<=2147483647) (ha:a<s.size) (hb:bd s a) (hk:au s a=1) (hl:l.length<=2147483647) :
  Sa 129 #[.pointer (some (Tw g 0))] W λe w'=>Uk e (Tu ((aq s a 1).2:Nat))/\TP w0 w' g s 1 a f l:=by
 have hd:=PW hk;have hE:aq s a 1=run (dJ s a 1) s.size a 0:=by unfold aq;simp
 obtain⟨ah,ai,aj⟩:=aQ s a ha
 have ab:(gd s a&&pX (dp s a))=true:=by
  rw[Sf]at hd ⊢;exact⟨hd.1,vJ hd.2⟩
 have HJ:Hid (JN w0 W g s 1 a f l a):=⟨ge _,ha,hb,h,0,hE.symm,sj ha (by rintro(⟨_,h⟩|⟨h,_⟩);rw[ab]at h;cases h;cases h) (by omega)⟩
 have HT:Hid (∀V x,JN w0 V g s 1 a f l x->Sa 188 #[.pointer (some (Tw g 0))] V λe w'=>Uk e (.tuple #[])/\∃y,x<y/\a<=y/\y<=s.size/\bd s y/\Rs w0 w' g s y a f l/\∃m,run (dJ s a 1) s.size y m=aq s a 1):=λV x hx=>by
  refine(ce hx.rs hs (Tl hx.xs)).mono ?_;rintro e w'⟨rfl,hr⟩;exact⟨rfl,hx.next hr⟩
 have ae:Hid (∀V y,Rs w0 V g s y a f l->a<=y->y<=s.size->Sa 193 #[.pointer (some (Tw g 0))] V λe w'=>Uk e (.bool (decide (65535<y+eH s y-a)))/\Rs w0 w' g s y a f l):=λV y hr h1 h2=>by
  obtain⟨M,O,v,S,h4⟩:=hr;refine(fD S hs h1 h2 (by by_cases e:y<s.size;rw[bW e];exact(aQ s y e).2.1;rw[fO (by omega)];omega)).mono ?_;rintro e w'⟨rfl,hb⟩;exact⟨rfl,Rq.below ⟨M,O,v,S,h4⟩ hb⟩
 have HC:Hid (∀V y,Rs w0 V g s y a f l->V.cell? (Tw g 2)=some (.int .i32 (aY s y))):=λV y hr=>by
  obtain⟨M,O,v,S,h4⟩:=hr;exact(Rq.cells S).2.2.1
 have c2:=HC.out _ _ h
 have ac:(decide (48<=aY s a)&&decide (aY s a<=57))=false:=by
  cases e:(decide (48<=aY s a)&&decide (aY s a<=57))with
  |false=>rfl
  |true=>
   exfalso
   rw[fZ ha,Sf,So,So]at e;rw[Sf]at hd;have h2:=SE hd.2;unfold DU at h2;omega
 have ad:Hid (Sa 128 #[.int .i32 (aY s a)] W λe w'=>Uk e (.bool false)/\w'=W):=by rw[<-ac];exact bG _ _
 clear hd hE ah ai aj ab h hk ac;go_enter func129,ntmps129;(go_wp2_with fail);refine Ux 1 (λa' w'=>∃(x:Nat) (u1 u2 u3 u4 u5 u6 u7 u8 u9 u10 u11 u12 u13 u14 u15 u16 u17 u18 u19 u20 u21 u22 u23 u24 u25 u26 u27 u28 u29 u30 u31 u32 u33 u34 u35 u36 u37 u38:Value),Hid (JN w0 w' g s 1 a f l x)/\a'={ tmps:=#[.pointer (some (Tw g 0)),u1,u2,u3,u4,u5,u6,u7,u8,u9,u10,u11,u12,u13,u14,u15,u16,u17,u18,u19,u20,u21,u22,u23,u24,u25,u26,u27,u28,u29,u30,u31,u32,u33,u34,u35,u36,u37,u38],defers:=[] }) (λ_ w'=>s.size-dD w' g 1) rfl ?_ ?_;rotate_left;rintro a' w'⟨x,u1,u2,u3,u4,u5,u6,u7,u8,u9,u10,u11,u12,u13,u14,u15,u16,u17,u18,u19,u20,u21,u22,u23,u24,u25,u26,u27,u28,u29,u30,u31,u32,u33,u34,u35,u36,u37,u38,HJ,rfl⟩;have HX:Hid (dD w' g 1=x/\x<s.size):=⟨HJ.out.rs.at,HJ.out.xs⟩;rotate_left
 go_wp2_with(first|(go_at_call 128;refine ad.out.mono ?_;rintro e w1⟨rfl,G⟩;replace G:=G.symm;subst G))
 go_step3
 clear c2
 all_goals(
  (go_wp2_with fail);refine(HT.out _ _ HJ.out).mono ?_;rintro e w1⟨rfl,y,y1,y2,y3,y4,y5,m,y6⟩;have z2:=HC.out _ _ y5;have Z:=ae.out _ _ y5 y2 y3;have Q:Hid (Rs w0 w1 g s y a f l/\bd s y/\run (dJ s a 1) s.size y m=aq s a 1):=⟨y5,y4,y6⟩;have rg:=Ab s y;have ak:IntKind.i64.wrap (aY s y)=aY s y:=by rw[Sn];omega
  have I:Hid (Sa 190 #[Tu (aY s y)] w1 λe w'=>Uk e (.bool (pX (aY s y)))/\w'=w1):=FL _ _ (hK.below y5.bel).1;have u:=Kl s y;clear HJ y5 y4 y6
  by_cases hc:pX (aY s y)=true
  ·rw[hc]at I;rw[hc]at u;obtain⟨d1,d2⟩:y<s.size/\(gd s y&&pX (dp s y))=true:=by rw[eq_comm,Sf,So]at u;exact u
   have HN:Hid (¬(((1:Nat)=1/\(gd s y&&pX (dp s y))=false)\/(1=3/\dF (aK s y)=false))):=by
    show ¬_;rintro(⟨_,h⟩|⟨h,_⟩)
    ·rw[d2]at h;cases h
    ·cases h
   have H:=aW Z;rw[bW d1]at H;clear hc Z u d2
   by_cases hf:65535<y+dw s y-a
   ·have HE:=aW (vf d1 Q.out.2.2 HN.out hf);rw[R8 hf]at H;clear hf
    go_wp2_with(first|(go_at_call 190;refine I.out.mono ?_;rintro e w2⟨rfl,G⟩;replace G:=G.symm;subst G)|(go_at_call 193;refine H.out.mono ?_;rintro e w3⟨rfl,hr3⟩))
    simp only[Exit.jump];go_ret;rw[HE.out];exact⟨rfl,TP.bad HE.out (by decide) Q.out.2.1 y2 hr3 (by intro h;cases h)⟩
   ·have HO:Hid (dJ s a 1 y m=.on (dw s y)):=sj d1 HN.out hf;rw[R9 hf]at H;clear hf
    go_wp2_with(first|(go_at_call 190;refine I.out.mono ?_;rintro e w2⟨rfl,G⟩;replace G:=G.symm;subst G)|(go_at_call 193;refine H.out.mono ?_;rintro e w3⟨rfl,hr3⟩))
    go_step3
    refine⟨rfl,?_⟩
    try refine⟨?_,by rw[HX.out.1,hr3.at];have:=HX.out.2;omega⟩
    exact⟨y,_,_,_,_,_,_,_,_,_,_,_,_,_,_,_,_,_,_,_,_,_,_,_,_,_,_,_,_,_,_,_,_,_,_,_,_,_,_,⟨y2,d1,Q.out.2.1,hr3,m,Q.out.2.2,HO.out⟩,rfl⟩
  ·have Y:pX (aY s y)=false:=by simpa using hc
   rw[Y]at I
   have HE:Hid (aq s a 1=(y,0)):=by
    refine uZ y3 Q.out.2.2 ?_;rw[Y]at u
    by_cases e:y<s.size
    ·rw[R8 e,TB]at u;exact .inr (.inl ⟨rfl,u.symm⟩)
    ·exact .inl (by omega)
   have aa:=hK.below Q.out.1.bel;obtain⟨kd,J⟩:∃kd:Nat,(if ky (s.extract a y)=true then 2 else 1)=kd:=⟨_,rfl⟩
   have ag:Hid (Sa 192 #[.pointer (some (Tw g 0))] w1 λe w'=>Uk e (.int .u8 kd)/\Rs w0 w' g s y a f l):=by
    obtain⟨M,O,v,S,h4⟩:=Q.out.1;refine(rK S aa hs y2 y3).mono ?_;rintro e w'⟨rfl,hb⟩;refine⟨?_,Rq.below ⟨M,O,v,S,h4⟩ hb⟩;rw[<-J];split<;>rfl
   have af:Hid (∀V,Rs w0 V g s y a f l->Sa 191 #[.pointer (some (Tw g 0)),.int .u8 kd] V λe w'=>Uk e (Tu 0)/\Rs w0 w' g s y a 0 (l++[tv s (dM s 1 a y f)])):=λV hV=>by
    have:=cI hV kd hs y2 y3 hl (by intro h;rw[<-J]at h;split at h<;>cases h);have e7:(if kd=7 then bJ s y else y)=y:=Eq (by rw[<-J];split<;>decide);rw[e7]at this
    have e8:dM s 1 a y f=⟨kd,a,y,f⟩:=by
     unfold dM;rw[<-J]
     congr 1
     by_cases e:ky (s.extract a y)=true
     ·rw[Or ⟨rfl,e⟩,Or e]
     ·rw[Eq (λh=>e h.2),Eq e]
    rw[e8];exact this
   clear hc Y Z u aa J
   go_wp2_with(first|(go_at_call 190;refine I.out.mono ?_;rintro e w2⟨rfl,G⟩;replace G:=G.symm;subst G)|(go_at_call 192;refine ag.out.mono ?_;rintro e w4⟨rfl,hr4⟩)|(go_at_call 191;refine(af.out _ hr4).mono ?_;rintro e w3⟨rfl,hr3⟩))
   simp only[Exit.jump];go_ret;rw[HE.out];exact⟨rfl,TP.ok HE.out hr3⟩)
structure JQ (w0 W:World) (g:Nat) (s:ByteArray) (a f:Nat) (l:List Tv) (x:Nat):Prop where
 ax:a<=x
 xs:x<s.size
 bx:bd s x
 rs:Rs w0 W g s x a f l
 on:∃m,run (dr s a 34 false) s.size (x+dw s x) m=aq s a 4
def JQ.next (h:JQ w0 W g s a f l x) (G:Rs w0 W' g s (x+eH s x) a f l) :
  ∃y,x<y/\a<=y/\y<=s.size/\bd s y/\Rs w0 W' g s y a f l/\∃m,run (dr s a 34 false) s.size y m=aq s a 4:=by
 obtain⟨J,u,H,M,m,I⟩:=h;obtain⟨d,_,d2⟩:=aQ s x u;rw[bW u]at G;exact⟨x+dw s x,by omega,by omega,d2,jz H u,G,m,I⟩
def Ef (h:Rs w0 W g s a a f l) (hs:s.size<=2147483647) (ha:a<s.size) (G:bd s a) (hk:au s a=4) (hl:l.length<=2147483647) :
  Sa 130 #[.pointer (some (Tw g 0))] W λe w'=>Uk e (Tu ((aq s a 4).2:Nat))/\TP w0 w' g s 4 a f l:=by
 have hd:=PU hk;have hE:aq s a 4=run (dr s a 34 false) s.size (a+1) 0:=by unfold aq;simp
 have u:=(bZ s a (by omega)).1;have HJ:Hid (JQ w0 W g s a f l a):=⟨ge _,ha,G,h,0,by rw[u];exact hE.symm⟩
 have HT:Hid (∀V x,JQ w0 V g s a f l x->Sa 188 #[.pointer (some (Tw g 0))] V λe w'=>Uk e (.tuple #[])/\∃y,x<y/\a<=y/\y<=s.size/\bd s y/\Rs w0 w' g s y a f l/\∃m,run (dr s a 34 false) s.size y m=aq s a 4):=λV x hx=>by
  refine(ce hx.rs hs (Tl hx.xs)).mono ?_;rintro e w'⟨rfl,hr⟩;exact⟨rfl,hx.next hr⟩
 have ag:Hid (∀V y,Rs w0 V g s y a f l->a<=y->y<=s.size->Sa 193 #[.pointer (some (Tw g 0))] V λe w'=>Uk e (.bool (decide (65535<y+eH s y-a)))/\Rs w0 w' g s y a f l):=λV y hr h1 h2=>by
  obtain⟨ad,ae,v,h3,h4⟩:=hr;refine(fD h3 hs h1 h2 (by by_cases e:y<s.size;rw[bW e];exact(aQ s y e).2.1;rw[fO (by omega)];omega)).mono ?_;rintro e w'⟨rfl,G⟩;exact⟨rfl,Rq.below ⟨ad,ae,v,h3,h4⟩ G⟩
 have HC:Hid (∀V y,Rs w0 V g s y a f l->V.cell? (Tw g 2)=some (.int .i32 (aY s y))):=λV y hr=>by
  obtain⟨ad,ae,v,h3,h4⟩:=hr;exact(Rq.cells h3).2.2.1
 have c2:=HC.out _ _ h;rw[(bB s a 34 (by decide) ha).2 hd]at c2;clear hd hE u h hk;go_enter func130,ntmps130;(go_wp2_with fail);refine Ux 1 (λa' w'=>∃(x:Nat) (u1 u2 u3 u4 u5 u6 u7 u8 u9 u10 u11 u12 u13 u14 u15 u16 u17 u18 u19 u20 u21 u22 u23 u24 u25 u26 u27 u28 u29 u30 u31 u32 u33 u34 u35 u36 u37 u38 u39 u40 u41 u42 u43 u44 u45 u46 u47 u48 u49 u50 u51 u52 u53 u54 u55 u56 u57 u58 u59 u60 u61 u62 u63 u64 u65 u66 u67 u68 u69 u70 u71 u72 u73:Value),Hid (JQ w0 w' g s a f l x)/\a'={ tmps:=#[.pointer (some (Tw g 0)),u1,u2,u3,u4,u5,u6,u7,u8,u9,u10,u11,u12,u13,u14,u15,u16,u17,u18,u19,u20,u21,u22,u23,u24,u25,u26,u27,u28,u29,u30,u31,u32,u33,u34,u35,u36,u37,u38,u39,u40,u41,u42,u43,u44,u45,u46,u47,u48,u49,u50,u51,u52,u53,u54,u55,u56,u57,u58,u59,u60,u61,u62,u63,u64,u65,u66,u67,u68,u69,u70,u71,u72,u73],defers:=[] }) (λ_ w'=>s.size-dD w' g 1) rfl ?_ ?_;rotate_left;rintro a' w'⟨x,u1,u2,u3,u4,u5,u6,u7,u8,u9,u10,u11,u12,u13,u14,u15,u16,u17,u18,u19,u20,u21,u22,u23,u24,u25,u26,u27,u28,u29,u30,u31,u32,u33,u34,u35,u36,u37,u38,u39,u40,u41,u42,u43,u44,u45,u46,u47,u48,u49,u50,u51,u52,u53,u54,u55,u56,u57,u58,u59,u60,u61,u62,u63,u64,u65,u66,u67,u68,u69,u70,u71,u72,u73,HJ,rfl⟩;have HX:Hid (dD w' g 1=x/\x<s.size):=⟨HJ.out.rs.at,HJ.out.xs⟩;rotate_left;(go_wp2_with fail)
 go_step3
 all_goals(
  clear c2;(go_wp2_with fail);refine(HT.out _ _ HJ.out).mono ?_;rintro e Z⟨rfl,y,y1,y2,y3,y4,y5,m,y6⟩;have z2:=HC.out _ _ y5;have ab:=ag.out _ _ y5 y2 y3;have S:Hid (Rs w0 Z g s y a f l/\bd s y/\run (dr s a 34 false) s.size y m=aq s a 4):=⟨y5,y4,y6⟩;have J:=cR (aY s y) Z;clear HJ y5 y4 y6
  by_cases hc:s.size<=y\/aK s y=10
  ·have e1:(decide (aY s y=10)||decide (aY s y=-1))=true:=by
    rw[SC,So,So]
    rcases hc with h|h
    ·exact .inr ((cN s y).2 h)
    ·by_cases e:y<s.size
     ·exact .inl ((bB s y 10 (by decide) e).2 h)
     ·exact .inr ((cN s y).2 (by omega))
   rw[e1]at J;have H:=aW J;have M:=aW (oS y3 S.out.2.2 hc);clear J e1 hc ab
   go_wp2_with(first|(go_at_call 194;refine H.out.mono ?_;rintro e w2⟨rfl,u⟩;replace u:=u.symm;subst u))
   simp only[Exit.jump];go_ret;rw[M.out];exact⟨rfl,TP.bad M.out (by decide) S.out.2.1 y2 S.out.1 (by intro h;cases h)⟩
  ·obtain⟨d1,d2⟩:y<s.size/\aK s y≠10:=⟨by omega,λh=>hc (.inr h)⟩
   have e1:(decide (aY s y=10)||decide (aY s y=-1))=false:=by
    rw[UN,Tr,Tr];exact⟨λh=>d2 ((bB s y 10 (by decide) d1).1 h),λh=>by have:=(cN s y).1 h;omega⟩
   rw[e1]at J;have H:=aW J;have I:=aW ab;rw[bW d1]at I;clear hc ab e1 J
   by_cases Y:65535<y+dw s y-a
   ·have M:=aW (Fj d1 S.out.2.2 d2 Y);rw[R8 Y]at I;clear Y
    go_wp2_with(first|(go_at_call 194;refine H.out.mono ?_;rintro e w2⟨rfl,u⟩;replace u:=u.symm;subst u)|(go_at_call 193;refine I.out.mono ?_;rintro e w3⟨rfl,hr3⟩;have z3:=HC.out _ _ hr3))
    simp only[Exit.jump];go_ret;rw[M.out];exact⟨rfl,TP.bad M.out (by decide) S.out.2.1 y2 hr3 (by intro h;cases h)⟩
   ·rw[R9 Y]at I;have Q:=Hk s y d1
    by_cases G:jG s y=true
    ·have O:Hid (∀V,Sa 195 #[.int .i32 (aY s y)] V λe w'=>Uk e (.bool true)/\w'=V):=λV=>by
      rw[<-G,<-Q];exact eF _ _
     have M:Hid (aq s a 4=(y,102)):=by
      refine jc d1 S.out.2.2 d2 Y ?_ (.inl G);rintro⟨h,_⟩;unfold jG at G;rw[(bZ s y (by omega)).2.1,h]at G;rw[Sf]at G;exact absurd G.2 (by decide)
     clear Y G Q
     go_wp2_with(first|(go_at_call 194;refine H.out.mono ?_;rintro e w2⟨rfl,u⟩;replace u:=u.symm;subst u)|(go_at_call 193;refine I.out.mono ?_;rintro e w3⟨rfl,hr3⟩;have z3:=HC.out _ _ hr3)|(go_at_call 195;refine(O.out _).mono ?_;rintro e w4⟨rfl,u⟩;replace u:=u.symm;subst u))
     simp only[Exit.jump];go_ret;rw[M.out];exact⟨rfl,TP.bad M.out (by decide) S.out.2.1 y2 hr3 (λ_=>rfl)⟩
    ·have aa:jG s y=false:=by simpa using G
     have O:Hid (∀V,Sa 195 #[.int .i32 (aY s y)] V λe w'=>Uk e (.bool false)/\w'=V):=λV=>by
      rw[<-aa,<-Q];exact eF _ _
     by_cases hq:aK s y=34
     ·have M:=aW (Ag d1 S.out.2.2 d2 Y ⟨hq,.inl rfl⟩);have ac:aY s y=34:=(bB s y 34 (by decide) d1).2 hq;have af:=(bZ s y (by omega)).1
      have ah:Hid (∀V,Rs w0 V g s y a f l->Sa 188 #[.pointer (some (Tw g 0))] V λe w'=>Uk e (.tuple #[])/\Rs w0 w' g s (y+1) a f l):=λV hV=>by
       have:=ce hV hs y3;rw[bW d1,af]at this;exact this
      have ai:=aW λV (hV:Rs w0 V g s (y+1) a f l)=>cI hV 4 hs (by omega) (by omega) hl (by intro h;cases h)
      rw[ac]at O H;clear Y G aa Q hq af
      go_wp2_with(first|(go_at_call 194;refine H.out.mono ?_;rintro e w2⟨rfl,u⟩;replace u:=u.symm;subst u)|(go_at_call 193;refine I.out.mono ?_;rintro e w3⟨rfl,hr3⟩;have z3:=HC.out _ _ hr3;rw[ac]at z3)|(go_at_call 195;refine(O.out _).mono ?_;rintro e w4⟨rfl,u⟩;replace u:=u.symm;subst u)|(go_at_call 188;refine(ah.out _ hr3).mono ?_;rintro e w5⟨rfl,hr5⟩)|(go_at_call 191;refine(ai.out _ hr5).mono ?_;rintro e w6⟨rfl,hr6⟩))
      simp only[Exit.jump];go_ret;rw[M.out];exact⟨rfl,TP.ok M.out hr6⟩
     ·have ac:(aY s y != 34)=true:=by
       rw[bne_iff_ne];exact λh=>hq ((bB s y 34 (by decide) d1).1 h)
      have HO:=aW (vu d1 S.out.2.2 d2 Y (λh=>hq h.1) (by rintro(h|h);exact G h;cases h.1));clear Y G aa Q hq
      go_wp2_with(first|(go_at_call 194;refine H.out.mono ?_;rintro e w2⟨rfl,u⟩;replace u:=u.symm;subst u)|(go_at_call 193;refine I.out.mono ?_;rintro e w3⟨rfl,hr3⟩;have z3:=HC.out _ _ hr3)|(go_at_call 195;refine(O.out _).mono ?_;rintro e w4⟨rfl,u⟩;replace u:=u.symm;subst u))
      go_step3
      refine⟨rfl,?_⟩
      try refine⟨?_,by rw[HX.out.1,hr3.at];have:=HX.out.2;omega⟩
      exact⟨y,_,_,_,_,_,_,_,_,_,_,_,_,_,_,_,_,_,_,_,_,_,_,_,_,_,_,_,_,_,_,_,_,_,_,_,_,_,_,_,_,_,_,_,_,_,_,_,_,_,_,_,_,_,_,_,_,_,_,_,_,_,_,_,_,_,_,_,_,_,_,_,_,_,⟨y2,d1,S.out.2.1,hr3,m+1,HO.out⟩,rfl⟩)
structure JC (w0 W:World) (g:Nat) (s:ByteArray) (o:Bool) (k a f:Nat) (l:List Tv) (x:Nat):Prop where
 ax:a<=x
 xs:x<s.size
 bx:bd s x
 rs:Rs w0 W g s x a f l
 h10:o=false->aK s x≠10
 h125:o=true->aK s x≠125
 ful:x+dw s x-a<=65535
 on:∃m,run (cP s a o) s.size x m=aq s a k
def JC.next (h:JC w0 W g s o k a f l x) (H:Rs w0 W' g s (x+eH s x) a f l) :
  ∃y,x<y/\a<y/\y<=s.size/\y-a<=65535/\bd s y/\Rs w0 W' g s y a f l/\∃m,run (cP s a o) s.size y m=aq s a k:=by
 obtain⟨Q,u,I,S,J,M,G,m,O⟩:=h;obtain⟨d,_,d2⟩:=aQ s x u;rw[bW u]at H;exact⟨x+dw s x,by omega,by omega,d2,G,jz I u,H,_,Oj m u J M G O⟩
def Gb (h:Rs w0 W g s a a f l) (hs:s.size<=2147483647) (ha:a<s.size) (hb:bd s a) (hk:au s a=7) (hl:l.length<=2147483647) :
  Sa 131 #[.pointer (some (Tw g 0))] W λe w'=>Uk e (Tu ((aq s a 7).2:Nat))/\TP w0 w' g s 7 a f l:=by
 have hd:aK s a=47:=(Ov hk).1;have hE:aq s a 7=run (cP s a false) s.size a 0:=by unfold aq;simp
 have u:=(bZ s a (by omega)).1;have ae:dY (aK s a)=false:=by rw[hd];decide
 have Y:Hid (JC w0 W g s false 7 a f l a):=⟨ge _,ha,hb,h,λ_=>by omega,λ_=>by omega,by omega,0,hE.symm⟩
 have HT:Hid (∀V x,JC w0 V g s false 7 a f l x->Sa 188 #[.pointer (some (Tw g 0))] V λe w'=>Uk e (.tuple #[])/\∃y,x<y/\a<y/\y<=s.size/\y-a<=65535/\bd s y/\Rs w0 w' g s y a f l/\∃m,run (cP s a false) s.size y m=aq s a 7):=λV x hx=>by
  refine(ce hx.rs hs (Tl hx.xs)).mono ?_;rintro e w'⟨rfl,hr⟩;exact⟨rfl,hx.next hr⟩
 have ac:Hid (∀V y,Rs w0 V g s y a f l->a<=y->y<=s.size->Sa 193 #[.pointer (some (Tw g 0))] V λe w'=>Uk e (.bool (decide (65535<y+eH s y-a)))/\Rs w0 w' g s y a f l):=λV y hr h1 h2=>by
  obtain⟨aa,ab,v,h3,h4⟩:=hr;refine(fD h3 hs h1 h2 (by by_cases e:y<s.size;rw[bW e];exact(aQ s y e).2.1;rw[fO (by omega)];omega)).mono ?_;rintro e w'⟨rfl,hb⟩;exact⟨rfl,Rq.below ⟨aa,ab,v,h3,h4⟩ hb⟩
 have HC:Hid (∀V y,Rs w0 V g s y a f l->V.cell? (Tw g 2)=some (.int .i32 (aY s y))):=λV y hr=>by
  obtain⟨aa,ab,v,h3,h4⟩:=hr;exact(Rq.cells h3).2.2.1
 have c2:=HC.out _ _ h;rw[(bB s a 47 (by decide) ha).2 hd]at c2;clear hd hE u h hk;go_enter func131,ntmps131;(go_wp2_with fail);refine Ux 1 (λa' w'=>∃(x:Nat) (u1 u2 u3 u4 u5 u6 u7 u8 u9 u10 u11 u12 u13 u14 u15 u16 u17 u18 u19 u20 u21 u22 u23 u24 u25 u26 u27 u28 u29 u30 u31 u32 u33 u34 u35 u36 u37 u38 u39 u40 u41:Value),Hid (JC w0 w' g s false 7 a f l x)/\a'={ tmps:=#[.pointer (some (Tw g 0)),u1,u2,u3,u4,u5,u6,u7,u8,u9,u10,u11,u12,u13,u14,u15,u16,u17,u18,u19,u20,u21,u22,u23,u24,u25,u26,u27,u28,u29,u30,u31,u32,u33,u34,u35,u36,u37,u38,u39,u40,u41],defers:=[] }) (λ_ w'=>s.size-dD w' g 1) rfl ?_ ?_;rotate_left;rintro a' w'⟨x,u1,u2,u3,u4,u5,u6,u7,u8,u9,u10,u11,u12,u13,u14,u15,u16,u17,u18,u19,u20,u21,u22,u23,u24,u25,u26,u27,u28,u29,u30,u31,u32,u33,u34,u35,u36,u37,u38,u39,u40,u41,Y,rfl⟩;have HX:Hid (dD w' g 1=x/\x<s.size):=⟨Y.out.rs.at,Y.out.xs⟩;rotate_left;(go_wp2_with fail)
 go_step3
 all_goals(
  clear c2;(go_wp2_with fail);refine(HT.out _ _ Y.out).mono ?_;rintro e J⟨rfl,y,y1,Q,y3,yb,y4,y5,m,y6⟩;have z2:=HC.out _ _ y5;have M:=ac.out _ _ y5 (Tl Q) y3;have O:Hid (Rs w0 J g s y a f l/\bd s y/\run (cP s a false) s.size y m=aq s a 7):=⟨y5,y4,y6⟩;have G:=cR (aY s y) J;clear Y y5 y4 y6
  by_cases hc:s.size<=y\/aK s y=10
  ·have Z:(decide (aY s y=10)||decide (aY s y=-1))=true:=by
    rw[SC,So,So]
    rcases hc with h|h
    ·exact .inr ((cN s y).2 h)
    ·by_cases e:y<s.size
     ·exact .inl ((bB s y 10 (by decide) e).2 h)
     ·exact .inr ((cN s y).2 (by omega))
   rw[Z]at G;have I:=aW G;have S:=aW (Hu y3 O.out.2.2 hc);have ad:=aW (cI O.out.1 7 hs (Tl Q) y3 hl (λ_=>⟨Q,ae⟩));clear G Z hc M
   go_wp2_with(first|(go_at_call 194;refine I.out.mono ?_;rintro e w2⟨rfl,u⟩;replace u:=u.symm;subst u)|(go_at_call 191;refine ad.out.mono ?_;rintro e w6⟨rfl,hr6⟩))
   simp only[Exit.jump];go_ret;rw[S.out];exact⟨rfl,TP.ok S.out hr6⟩
  ·obtain⟨d1,d2⟩:y<s.size/\aK s y≠10:=⟨by omega,λh=>hc (.inr h)⟩
   have Z:(decide (aY s y=10)||decide (aY s y=-1))=false:=by
    rw[UN,Tr,Tr];exact⟨λh=>d2 ((bB s y 10 (by decide) d1).1 h),λh=>by have:=(cN s y).1 h;omega⟩
   rw[Z]at G;have I:=aW G;have H:=aW M;rw[bW d1]at H;clear hc M Z G
   by_cases hf:65535<y+dw s y-a
   ·have S:=aW (xi m d1 (λ_=>d2) (Tl Q) yb hf O.out.2.2);rw[R8 hf]at H;clear hf
    go_wp2_with(first|(go_at_call 194;refine I.out.mono ?_;rintro e w2⟨rfl,u⟩;replace u:=u.symm;subst u)|(go_at_call 193;refine H.out.mono ?_;rintro e w3⟨rfl,hr3⟩;have z3:=HC.out _ _ hr3))
    simp only[Exit.jump];go_ret;rw[S.out];exact⟨rfl,TP.bad S.out (by decide) O.out.2.1 (Tl Q) hr3 (by intro h;cases h)⟩
   ·have HO:Hid (y+dw s y-a<=65535):=by show _<=_;omega
    rw[R9 hf]at H;clear hf
    go_wp2_with(first|(go_at_call 194;refine I.out.mono ?_;rintro e w2⟨rfl,u⟩;replace u:=u.symm;subst u)|(go_at_call 193;refine H.out.mono ?_;rintro e w3⟨rfl,hr3⟩;have z3:=HC.out _ _ hr3))
    go_step3
    refine⟨rfl,?_⟩
    try refine⟨?_,by rw[HX.out.1,hr3.at];have:=HX.out.2;omega⟩
    exact⟨y,_,_,_,_,_,_,_,_,_,_,_,_,_,_,_,_,_,_,_,_,_,_,_,_,_,_,_,_,_,_,_,_,_,_,_,_,_,_,_,_,_,⟨Tl Q,d1,O.out.2.1,hr3,λ_=>d2,λh=>(by cases h),HO.out,m,O.out.2.2⟩,rfl⟩)
