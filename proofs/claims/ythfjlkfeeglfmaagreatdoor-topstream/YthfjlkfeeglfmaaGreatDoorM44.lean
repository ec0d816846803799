import Derived.Test.YthfjlkfeeglfmaaGreatDoorM10
import Derived.Test.YthfjlkfeeglfmaaGreatDoorM34
import Derived.Test.YthfjlkfeeglfmaaGreatDoorM43
set_option linter.all false
namespace Go.Proofs.YthfjlkfeeglfmaaGreatDoor
open Go.RowKit
open Lw (Dc bE rt bQ cq gK kq)
variable {E o r:List Ev}{n:Int}{t:Tv}{k:Nat}{K:List It}{s:Sy}{e:Ev}{R:Ro}{w W:World}{l:List Dc}{ao:Option Addr}{v:Value}
def lH :eX s (e :: r)=match gq s e with|none=>none|some (s',l)=>(eX s' r).map (l++·):=rfl
open Lw (Dc bE rt bQ cq gK kq kC cX aX pV MX)
def oJ:∀(E:List Ev) {u L:List Dc}{s:Sy},fp u s->eX s E=some L->bQ 0 0 (u++L)=none
 |[],u,L,s,hS,h=>(zS hS h).1
 |e :: E,u,L,s,hS,h=>by
  rw[lH]at h;cases G:gq s e with
  |none=>rw[G]at h;cases h
  |some x=>
   obtain⟨H,l⟩:=x;rw[G]at h;simp only at h;obtain⟨L1,h1,h2⟩:=SX.1 h;have:=oJ E (zR hS G).1 h1;rw[<-h2,<-RW];exact this
def M8 (h:Ru t k K n E R):∀{H:Nat}{G:Ro},Ru t H K n E G->k=H/\R=G:=by
 induction h with
 |nil=>intro H G u;cases u;exact⟨rfl,rfl⟩
 |ref hs=>
  intro H G u;cases u with
  |ref _=>exact⟨rfl,rfl⟩
  |tk h2=>rw[hs]at h2;cases h2
  |go h2 _=>rw[hs]at h2;cases h2
 |tk hs=>
  intro H G u;cases u with
  |ref h2=>rw[hs]at h2;cases h2
  |tk _=>exact⟨rfl,rfl⟩
  |go h2 _=>rw[hs]at h2;cases h2
 |go hs _ ih=>
  intro H G u;cases u with
  |ref h2=>rw[hs]at h2;cases h2
  |tk h2=>rw[hs]at h2;cases h2
  |go h2 h3=>
   rw[hs]at h2;cases h2;obtain⟨rfl,rfl⟩:=ih h3;exact⟨rfl,rfl⟩
def M7 (h:Ru t k K n E R):∀{L:List It}{m:Int}{F:List Ev},R=.yes L m F->li K->∃o,F=E++o/\o.length<=k:=by
 induction h with
 |nil=>intro L m F h;cases h
 |ref _=>intro L m F h;cases h
 |tk hs=>intro L m F h _;cases h;exact⟨[],by simp,ge _⟩
 |go hs _ ih=>
  rename_i k i K n d E o r R _
  intro L m F h u;have H:=u i (RZ ..);obtain⟨G,J,M,O⟩:=iX (K:=K) hs H;obtain⟨o2,b1,b2⟩:=ih h (iU G (λj I=>u j (R1 _ I)));exact⟨o++o2,by rw[b1,RW],by rw[IO];omega⟩
def qk (o:List Ev):Nat:=o.countP (λe=>decide (e.k=1))
def Au (a b:List Ev):qk (a++b)=qk a+qk b:=Wa ..
def FR (a:List Ev):qk a<=a.length:=List.countP_le_length
def EX (h:Ru t k K n E R):∀{L:List It}{m:Int}{F:List Ev},R=.yes L m F->li K->∃o,F=E++o/\qk o<=10:=by
 induction h with
 |nil=>intro L m F h;cases h
 |ref _=>intro L m F h;cases h
 |tk hs=>intro L m F h _;cases h;exact⟨[],by simp,by simp[qk]⟩
 |go hs hr ih=>
  rename_i k i K n d E o r R
  intro L m F h Q;have J:=Q i (RZ ..);obtain⟨Z,a2,a3,a4⟩:=iX (K:=K) hs J
  have u:∀c,c<=10->eZ t c i->∃o,F=E++o/\qk o<=10:=by
   intro c hc Y;obtain⟨k',R',aa,S⟩:=Y K n E;have H:=Ru.go hs hr;obtain⟨e1,e2⟩:=M8 H S;obtain⟨M,O,b2⟩:=M7 H h Q;exact⟨M,O,by have:=FR M;omega⟩
  have G:o=[]\/(∃e,o=[e]/\e.k≠1)->∃o,F=E++o/\qk o<=10:=by
   intro ho;obtain⟨M,O,b2⟩:=ih h (iU Z (λj hj=>Q j (R1 _ hj)));refine⟨o++M,by rw[O,RW],?_⟩;rw[Au]
   have:qk o=0:=by
    rcases ho with rfl|⟨e,rfl,he⟩
    ·rfl
    ·simp[qk,he]
   omega
  cases i with
  |fl x=>exact u 8 (by omega) (qF t x)
  |lv a=>cases hs;exact G (.inr ⟨_,rfl,by show(3:Int)≠1;decide⟩)
  |once p=>
   cases I:Pk.pick t p with
   |none=>simp only[It.step,I]at hs;cases hs;exact G (.inl rfl)
   |some j=>exact u 10 (by omega) (bS (r:=[]) (by simp[It.step,I];exact⟨rfl,rfl⟩) (iZ J I))
  |again p=>
   cases I:Pk.pick t p with
   |none=>simp only[It.step,I]at hs;cases hs;exact G (.inl rfl)
   |some j=>exact u 10 (by omega) (bS (r:=[.again p]) (by simp[It.step,I,IJ];exact⟨rfl,rfl⟩) (iZ J I))
  |all rr=>
   obtain⟨⟨kk,ts,rest,rfl⟩,_⟩:=J;exact u 1 (by omega) (bS (r:=rest.map It.fl) rfl (i8 t (.wd kk ts) aB 0))
def FH (H:OL o):∀{s s':List Int},cW s o=some s'->o.length+s'.length=s.length+2*qk o:=by
 induction o with
 |nil=>intro s s' h;cases h;simp[qk]
 |cons e o ih=>
  intro s s' h;have G:OL o:=λx J=>H x (R1 _ J)
  have hc:qk (e :: o)=qk o+(if e.k=1 then 1 else 0):=by unfold qk;rw[Tp];simp
  rcases H e (RZ ..)with u|I
  ·simp only[cW,Or u]at h;have:=ih G h;rw[hc,Or u];simp only[List.length_cons]at this ⊢;omega
  ·have u:¬e.k=1:=by omega
   simp only[cW,Eq u,Or I]at h;cases s with
   |nil=>cases h
   |cons a b=>
    simp only at h
    split at h
    ·have:=ih G h;rw[hc,Eq u];simp only[List.length_cons]at this ⊢;omega
    ·cases h
def ue:∀(l:List Tv) (K:List It) (n:Int) (E:List Ev) (a:Nat),gM (.live K n) l E 0 a->gJ (.live K n)->E.length<=(bV K).length+23*l.length+1
 |[],K,n,E,a,hA,hg=>by
  obtain⟨hc,_⟩:=hA.end;cases hc with
  |all hK=>show 1<=_;omega
 |t :: l,K,n,E,a,hA,hg=>by
  rcases hA.inv with⟨_,_,_,hc,_⟩|⟨ev,st',O,Z,G,H,rfl,rfl⟩
  ·exact absurd rfl hc
  ·obtain⟨s,J⟩:∃s:Sy,s.ks=bV K:=⟨⟨(bV K).map (λk=>⟨k,0,false⟩),[],none,false,false,false⟩,by unfold Sy.ks;rw[List.map_map];exact List.map_id _⟩;obtain⟨o,e,K',n',rfl,rfl,hg',hB,hn,hpl,hlen,rfl⟩:=Aj hg J G;have S:=ue l K' n' O Z H hg';have Y:=FH hB hpl;rw[J]at Y
   have h4:qk o<=11:=by
    obtain⟨Q,b2,b3,b4,b5,M,aa,I⟩:=df hg;have ab:qk (er n)<=1:=PI (FR _) I;generalize ac:(⟨if(t.k==7||t.k==8)=true then 4 else 2,0,t⟩:Ev)=e0 at G;generalize u:o++[e0]=ev0 at G
    cases G with
    |note hc=>
     have:o=er n:=(Vv u rfl).1;rw[this];omega
    |yes hc hR hkk hm=>
     obtain⟨o2,c1,c2⟩:=EX hR rfl Q;have:=(Vv u rfl).1;rw[this,c1,Au];omega
   rw[IO,IO];simp only[List.length_cons,List.length_nil]at S ⊢;omega
def IF:∀(l:List Tv) (K:List It) (n:Int) (E:List Ev) (a:Nat),gM (.live K n) l E 0 a->gJ (.live K n)->∀e∈E,e.d=av\/e.d∈l
 |[],K,n,E,a,hA,hg=>by
  obtain⟨hc,_⟩:=hA.end;cases hc with
  |all hK=>intro e u;simp at u;subst u;exact .inl rfl
 |t :: l,K,n,E,a,hA,hg=>by
  rcases hA.inv with⟨_,_,_,hc,_⟩|⟨ev,st',S,k2,G,I,rfl,rfl⟩
  ·exact absurd rfl hc
  ·obtain⟨Y,Z,b3,b4,b5,Q,ab,aa⟩:=df hg;have J:=(dP hg G).1
   have O:∀e∈er n,e.d=av:=by
    intro e u;unfold er at u
    split at u
    ·simp at u;subst u;rfl
    ·simp at u
   have M:∀e∈ev,e.d=av\/e.d=t:=by
    cases G with
    |note hc=>
     intro e u
     rcases Ss.1 u with u|u
     ·exact .inl (O e u)
     ·simp at u;subst u;exact .inr rfl
    |yes hc hR hkk hm=>
     obtain⟨_,_,_,o,d4,_,d6,_⟩:=fM hR rfl Y Z b3;intro e u;rw[d4]at u
     rcases Ss.1 u with u|u
     ·rcases Ss.1 u with u|u
      ·exact .inl (O e u)
      ·exact .inl (d6 e u).1
     ·simp at u;subst u;exact .inr rfl
   obtain⟨K',H,rfl⟩:∃K' H,st'=.live K' H:=by
    cases G with
    |note _=>exact⟨_,_,rfl⟩
    |yes _ _ _ _=>exact⟨_,_,rfl⟩
   intro e u
   rcases Ss.1 u with u|u
   ·exact(M e u).imp id (λh=>by rw[h];exact RZ ..)
   ·exact(IF l K' H S k2 I J e u).imp id (R1 _)
def Et (s:ByteArray):∀t∈ib s,t.t.size<=s.size:=by
 intro t ht;obtain⟨x,u,rfl⟩:=TY.1 ht;obtain⟨_,h1,h2⟩:=Lx.kM s _ 0 0 (ge _) x u;show(s.extract x.a x.e).size<=_;rw[Lx.aE s x.a x.e h2];omega
def rP (s:ByteArray):(ib s).length<=s.size:=by
 have u:∀(d a f:Nat),s.size-a<=d->(Lx.yJ s a f).1.length<=s.size-a:=by
  intro d
  induction d with
  |zero=>intro a f h;rw[Lx.kN s a f (by omega)];exact RU _
  |succ d ih=>
   intro a f h
   by_cases I:s.size<=a
   ·rw[Lx.kN s a f I];exact RU _
   ·rw[Lx.eK s a f (by omega)]
    split
    ·have:=ih (a+1) (f+1) (by omega);omega
    ·split
     ·have:=ih (a+1) f (by omega);omega
     ·split
      ·exact RU _
      ·rename_i G
       split
       ·exact RU _
       ·rename_i H
        have J:Lx.aq s a (Lx.au s a)=((Lx.aq s a (Lx.au s a)).1,0):=W6 rfl (by simpa using H);obtain⟨M,O⟩:=Lx.gn s a _ _ (by omega) rfl G J;have:=ih (Lx.aq s a (Lx.au s a)).1 0 (by omega);simp only[List.length_cons];omega
 show((Lx.fY s).1.map (Lx.tv s)).length<=_;rw[Td];exact u _ 0 0 (ge _)
open Lw (Dc bE rt bQ cq gK kq kC)
def jP (n:Int) (o:List Ev):Nat:=o.countP (λe=>decide (e.k=1)&&decide (e.n=n))
def Bu (n:Int) (a b:List Ev):jP n (a++b)=jP n a+jP n b:=Wa ..
def wD (m:M):List It->Nat
 |.fl (.mt m') :: _=>if m'=m then 1 else 0
 |_=>0
def oM {m1 m2:M}{n1 n2:Int}(Q:m1≠m2) (hn:n1≠n2) (h1:∀t,∃r,M.row t m1=.op n1 (.fl (.mt m2) :: r)) (Y:∀t,∃r,M.row t m2=.op n2 r) (ho:∀t m r,M.row t m=.op n1 r->m=m1)
  {t:Tv} {k:Nat} {K:List It} {n:Int} {E:List Ev} {R:Ro} (h:Ru t k K n E R):∀{L:List It} {m:Int} {F:List Ev},R=.yes L m F->∃o,F=E++o/\jP n1 o+wD m2 K<=jP n2 o:=by
 induction h with
 |nil=>intro L m F h;cases h
 |ref _=>intro L m F h;cases h
 |tk hs=>
  rename_i i K n E
  intro L m F h;cases h;refine⟨[],by simp,?_⟩
  have:wD m2 (i :: K)=0:=by
   unfold wD
   split
   ·rename_i m' _ e
    injection e with J _
    subst J
    exfalso
    simp only[It.step,Fl.step]at hs;cases u:M.row t m'<;>rw[u]at hs<;>cases hs
   ·rfl
  rw[this];exact ge _
 |go hs _ ih=>
  rename_i k i K n d E o r R _
  intro L m F h;obtain⟨G,Z,b2⟩:=ih h;refine⟨o++G,by rw[Z,RW],?_⟩;rw[Bu,Bu];cases i with
  |fl x=>
   have hm:∃m,x=.mt m:=by
    cases x with
    |mt m=>exact⟨m,rfl⟩
    |_=>simp only[It.step,Fl.step]at hs;split at hs<;>cases hs
   obtain⟨I,rfl⟩:=hm;simp only[It.step,Fl.step]at hs;have hh:wD m2 (It.fl (.mt I) :: K)=if I=m2 then 1 else 0:=rfl
   rw[hh];cases u:M.row t I with
   |ref=>rw[u]at hs;cases hs
   |ex r'=>
    rw[u]at hs;cases hs;have:I≠m2:=λe=>by subst e;obtain⟨O,H⟩:=Y t;rw[u]at H;cases H
    rw[Eq this];show 0+jP n1 G+0<=0+jP n2 G;omega
   |op nd r'=>
    rw[u]at hs;cases hs
    have c:∀q:Int,jP q [⟨1,nd,av⟩]=if nd=q then 1 else 0:=by
     intro q;unfold jP
     by_cases e:nd=q<;>simp[e]
    rw[c,c]
    by_cases J:I=m1
    ·subst J;obtain⟨O,H⟩:=h1 t;rw[u]at H;injection H with h4 h5
     subst h4 h5;have hx:wD m2 ((.fl (.mt m2) :: O++[.lv nd])++K)=1:=by show(if m2=m2 then 1 else 0)=1;rw[Or rfl]
     rw[hx]at b2;rw[Or rfl,Eq hn,Eq Q];omega
    ·have e2:nd≠n1:=λe=>J (ho t I r' (by rw[u,e]))
     rw[Eq e2]
     by_cases S:I=m2
     ·subst S;obtain⟨O,H⟩:=Y t;rw[u]at H;injection H with h4 h5
      subst h4;rw[Or rfl,Or rfl];omega
     ·rw[Eq S];omega
  |lv a=>cases hs;show 0+jP n1 G+0<=0+jP n2 G;omega
  |once p=>cases hs;show 0+jP n1 G+0<=0+jP n2 G;omega
  |again p=>cases hs;show 0+jP n1 G+0<=0+jP n2 G;omega
  |all rr=>cases hs;show 0+jP n1 G+0<=0+jP n2 G;omega
def oN {m1:M}(u:n=21/\m1=.expr\/n=22/\m1=.rel\/n=23/\m1=.sum) (t:Tv) (m:M) (r:List It) (h:M.row t m=.op n r):m=m1:=by
 rcases u with⟨rfl,rfl⟩|⟨rfl,rfl⟩|⟨rfl,rfl⟩<;>cases m<;>first|rfl|(simp only[M.row,co]at h;repeat' (split at h));all_goals first|(cases h;done)|rfl
def JV {L:List It}{m:Int}{F:List Ev}(h:Ru t k K n E (.yes L m F)) (I:li K):∃o,F=E++o/\jP 21 o<=2:=by
 obtain⟨o,u,c1⟩:=EX h rfl I;obtain⟨o1,f1,g1⟩:=oM (m1:=.expr) (m2:=.rel) (n1:=21) (n2:=22) (by decide) (by decide) (λt=>⟨_,rfl⟩) (λt=>⟨_,rfl⟩) (oN (.inl ⟨rfl,rfl⟩)) h rfl;obtain⟨o2,f2,g2⟩:=oM (m1:=.rel) (m2:=.sum) (n1:=22) (n2:=23) (by decide) (by decide) (λt=>⟨_,rfl⟩) (λt=>⟨_,rfl⟩) (oN (.inr (.inl ⟨rfl,rfl⟩))) h rfl;obtain⟨o3,f3,g3⟩:=oM (m1:=.sum) (m2:=.term) (n1:=23) (n2:=24) (by decide) (by decide) (λt=>⟨_,rfl⟩) (λt=>⟨_,rfl⟩) (oN (.inr (.inr ⟨rfl,rfl⟩))) h rfl;have J:=TX (u.symm.trans f1);have M:=TX (u.symm.trans f2);have O:=TX (u.symm.trans f3);subst J M O;refine⟨o,u,?_⟩
 have Q:jP 21 o+jP 22 o+jP 23 o+jP 24 o<=qk o:=by
  clear u c1 f1 g1 f2 g2 f3 g3
  induction o with
  |nil=>exact ge _
  |cons e o ih=>
   have hc:∀n:Int,jP n (e :: o)=jP n o+(if e.k=1/\e.n=n then 1 else 0):=by
    intro n;unfold jP;rw[Tp];simp
   have H:qk (e :: o)=qk o+(if e.k=1 then 1 else 0):=by unfold qk;rw[Tp];simp
   rw[hc,hc,hc,hc,H]
   by_cases G:e.k=1
   ·simp only[G,true_and,TU]
    repeat' split
    all_goals omega
   ·simp only[G,false_and,SW];omega
 omega
open Lw (Dc bE rt bQ cq gK kq kC ud fF)
def QA (d:Dc):Bool:=!(decide (d.k=6)||decide (d.k=7))
def eT (l:List Dc):Nat:=l.countP QA
def cM (a b:List Dc):eT (a++b)=eT a+eT b:=Wa ..
def gk (d:Dc) (b:List Dc):eT (d :: b)=eT b+(if QA d=true then 1 else 0):=Tp ..
def iT (d:Dc):eT [d]<=1:=by rw[gk];split<;>simp[eT]
def Pz.nb (p:Pz):Nat:=match p with|.S=>1|.B0=>1|.B1=>1|.H=>1|_=>0
def Ma (l:List Pz):Nat:=(l.map Pz.nb).sum
def PZ (s:Sy) (p:Pz):eT (s.aw p).ws<=eT s.ws+p.nb:=by
 rw[Iu,cM]
 have:eT (jQ p s.ns)<=p.nb:=by
  unfold jQ
  split
  ·exact RU _
  ·cases p<;>exact ge _
 omega
def yY (l:List Pz):∀s:Sy,eT (s.aws l).ws<=eT s.ws+Ma l:=by
 induction l with
 |nil=>intro s;exact ge _
 |cons p l ih=>
  intro s;rw[eO];have u:=ih (s.aw p);have G:=PZ s p;have H:Ma (p :: l)=p.nb+Ma l:=rfl;omega
def Ms (a:Fx):Ma a.pz<=1:=by cases a<;>decide
def mB (l:List Nd):Nat:=l.countP (λn=>decide (n.k=1))
def fq (s:Sy):Nat:=eT s.ws+mB s.ns
def Kk (p:Pz) (l:List Nd):mB (gX p l)=mB l:=by
 cases l with
 |nil=>rfl
 |cons n r=>simp only[gX];split<;>(unfold mB;rw[Tp,Tp])
def Kj (l:List Pz):∀s:Sy,mB (s.aws l).ns=mB s.ns:=by
 induction l with
 |nil=>intro s;rfl
 |cons p l ih=>intro s;rw[eO,ih];exact Kk p s.ns
def sK (s:Sy) (l:List Pz):fq (s.aws l)<=fq s+Ma l:=by
 unfold fq;rw[Kj];have:=yY l s;omega
def yt (s:Sy):fq s.exprIn<=fq s+1:=by
 unfold Sy.exprIn
 split
 ·omega
 ·rename_i n r e
  have u:mB (⟨n.k,(if n.k=19 then n.b+1 else n.b),true⟩ :: r)=mB s.ns:=by rw[e];unfold mB;rw[Tp,Tp]
  show eT (if n.k=19 then s.aws [.S,.I 3]else if n.k=31/\n.s=false then s.aws [.B0]else s).ws+mB (⟨n.k,(if n.k=19 then n.b+1 else n.b),true⟩ :: r)<=_;rw[u];unfold fq
  split
  ·have:=yY [.S,.I 3] s;have:Ma [.S,.I 3]=1:=rfl;omega
  ·split
   ·have:=yY [.B0] s;have:Ma [.B0]=1:=rfl;omega
   ·omega
def OW (k:Int):Nat:=(if k=21 then 1 else 0)+(if k=1 then 1 else 0)
def CD (s:Sy) (k:Int):fq (s.opens k)<=fq s+OW k:=by
 obtain⟨u,G⟩:=ea (if k=21 then s.exprIn else s)
 have H:fq u<=fq s+(if k=21 then 1 else 0):=by
  rw[<-G];split
  ·exact yt s
  ·omega
 have I:fq (u.mark k)=fq u:=by unfold Sy.mark;split<;>rfl
 have e:s.opens k=Sy.aws { (u.mark k)with ns:=⟨k,0,false⟩ :: (u.mark k).ns } (uk k):=by unfold Sy.opens;simp only;rw[G]
 rw[e];have J:=sK { (u.mark k)with ns:=⟨k,0,false⟩ :: (u.mark k).ns } (uk k);have M:Ma (uk k)=0:=by unfold uk;split;rfl;split<;>rfl
 have O:fq ({ (u.mark k)with ns:=⟨k,0,false⟩ :: (u.mark k).ns }:Sy)=fq (u.mark k)+(if k=1 then 1 else 0):=by
  show eT (u.mark k).ws+mB (⟨k,0,false⟩ :: (u.mark k).ns)=eT (u.mark k).ws+mB (u.mark k).ns+_;unfold mB;rw[Tp];simp;omega
 unfold OW;omega
def yq (s:Sy):fq s.leaves<=fq s:=by
 unfold Sy.leaves
 split
 ·omega
 ·rename_i n r e
  show eT (s.ws++List.replicate n.b dX++(if n.k=1 then[dH]else[]))+mB r<=_;have u:mB s.ns=mB r+(if n.k=1 then 1 else 0):=by rw[e];unfold mB;rw[Tp];simp
  have G:eT (List.replicate n.b dX)=0:=by unfold eT;rw[List.countP_replicate];rfl
  unfold fq;rw[cM,cM,G,u]
  split
  ·have:=iT dH;omega
  ·show _+0+eT []+_<=_;have:eT []=0:=rfl;omega
def CC (s:Sy) (a:Fx) (f:Int):fq (s.ready a f)<=fq s+4:=by
 have M:=sK s a.pz;have O:=Ms a
 have J:fq ((s.aws a.pz).emp f)<=fq (s.aws a.pz)+1:=by
  unfold Sy.emp
  split
  ·omega
  ·split
   ·omega
   ·rename_i m _ _
    show eT ((s.aws a.pz).ws.take m++dE :: (s.aws a.pz).ws.drop m)+mB (s.aws a.pz).ns<=_;have I:eT (s.aws a.pz).ws=eT ((s.aws a.pz).ws.take m)+eT ((s.aws a.pz).ws.drop m):=by rw[<-cM,Tm]
    unfold fq;rw[cM,gk,I]
    split<;>omega
 have G:∀u:Sy,fq u.endl<=fq u+1:=λu=>by
  unfold Sy.endl
  split
  ·show eT (dH :: u.ws)+mB u.ns<=_;unfold fq;rw[gk];split<;>omega
  ·omega
 have H:∀u:Sy,fq u.part<=fq u+1:=λu=>by
  unfold Sy.part
  split
  ·show eT (u.ws++[dS])+mB u.ns<=_;unfold fq;rw[cM];have:=iT dS;omega
  ·omega
 unfold Sy.ready;have:=H ((s.aws a.pz).emp f).endl;have:=G ((s.aws a.pz).emp f);omega
def FF (s:Sy) (t:Tv):eT (s.leaf t).2+fq (s.leaf t).1<=fq s+6:=by
 unfold Sy.leaf
 split
 ·have u:eT ([]:List Dc)=0:=rfl;show eT []+fq s<=fq s+6;omega
 ·rename_i n r e
  have G:=CC s (bi n t).a t.f;have H:=sK ⟨(s.ready (bi n t).a t.f).ns,[],none,true,false,false⟩ (bi n t).b.pz;have I:=Ms (bi n t).b
  have J:fq ⟨(s.ready (bi n t).a t.f).ns,[],none,true,false,false⟩=mB (s.ready (bi n t).a t.f).ns:=by
   have u:eT ([]:List Dc)=0:=rfl;show eT []+mB (s.ready (bi n t).a t.f).ns=mB (s.ready (bi n t).a t.f).ns;omega
  show eT ((s.ready (bi n t).a t.f).ws++[dT t.t])+fq (Sy.aws ⟨(s.ready (bi n t).a t.f).ns,[],none,true,false,false⟩ (bi n t).b.pz)<=_;rw[cM];have:=iT (dT t.t);have M:fq (s.ready (bi n t).a t.f)=eT (s.ready (bi n t).a t.f).ws+mB (s.ready (bi n t).a t.f).ns:=rfl;omega
def FE (s:Sy) (t:Tv):eT (s.note t).2+fq (s.note t).1<=fq s+6:=by
 have u:eT s.ws=eT (s.ws.takeWhile br)+eT (s.ws.dropWhile br):=by rw[<-cM,Un]
 have G:=iT (dT t.t);have H:=iT dS;unfold Sy.note;simp only
 split
 ·show eT (s.ws.takeWhile br++[dS,dT t.t])+(eT (s.ws.dropWhile br)+mB s.ns)<=_;unfold fq;rw[cM,show([dS,dT t.t]:List Dc)=[dS]++[dT t.t]from rfl,cM,u];omega
 ·show eT (s.ws.takeWhile br++dH :: ((if _ then[dE]else[])++[dT t.t]))+(eT (s.ws.dropWhile br)+mB s.ns)<=_;unfold fq;rw[cM,gk,cM,u];have I:=iT dE;have J:eT ([]:List Dc)=0:=rfl
  split<;>split<;>omega
def OM (e:Ev):Nat:=if e.k=1 then OW e.n else if e.k=3 then 0 else 6
def ui (E:List Ev):Nat:=(E.map OM).sum
def m8 (a b:List Ev):ui (a++b)=ui a+ui b:=by unfold ui;rw[SN,WG]
def Kg {s':Sy}(h:gq s e=some (s',l)):eT l+fq s'<=fq s+OM e:=by
 unfold gq at h
 split at h
 ·have u:=SJ h;obtain⟨G,H⟩:(s.step e).1=s'/\(s.step e).2=l:=⟨by rw[u],by rw[u]⟩;rw[<-G,<-H];unfold Sy.step OM
  split
  ·have J:=CD s e.n;have I:eT ([]:List Dc)=0:=rfl;show eT []+fq (s.opens e.n)<=fq s+OW e.n;omega
  ·split
   ·have J:=yq s;have I:eT ([]:List Dc)=0:=rfl;show eT []+fq s.leaves<=fq s+0;omega
   ·split
    ·exact FF s e.d
    ·exact FE s e.d
 ·cases h
def zu:∀(E:List Ev) {s:Sy}{L:List Dc},eX s E=some L->eT L<=fq s+ui E+1
 |[],s,L,h=>by
  have u:kn s=some L:=h;unfold kn at u
  split at u
  ·cases u;unfold Sy.endl;unfold fq
   split
   ·show eT (dH :: s.ws)<=_;rw[gk];split<;>omega
   ·omega
  ·cases u
 |e :: E,s,L,h=>by
  rw[lH]at h;cases G:gq s e with
  |none=>rw[G]at h;cases h
  |some x=>
   obtain⟨M,l⟩:=x;rw[G]at h;simp only at h;obtain⟨L1,h1,h2⟩:=SX.1 h;have H:=zu E h1;have I:=Kg G;have J:ui (e :: E)=OM e+ui E:=rfl;rw[<-h2,cM];omega
def Jg (G:OL o):ui o<=jP 21 o+jP 1 o:=by
 induction o with
 |nil=>exact ge _
 |cons e o ih=>
  have J:=ih (λx I=>G x (R1 _ I))
  have hc:∀n:Int,jP n (e :: o)=jP n o+(if e.k=1/\e.n=n then 1 else 0):=by
   intro n;unfold jP;rw[Tp];simp
  have H:ui (e :: o)=OM e+ui o:=rfl;rw[H,hc,hc];unfold OM OW
  rcases G e (RZ ..)with u|u
  ·simp only[u,true_and,TU]
   repeat' split
   all_goals omega
  ·rw[Eq (by omega),Or u]
   repeat' split
   all_goals omega
def IA:∀(l:List Tv) (K:List It) (n:Int) (E:List Ev) (a:Nat),gM (.live K n) l E 0 a->gJ (.live K n)->ui E<=8*l.length+ui (er n)
 |[],K,n,E,a,hA,hg=>by
  obtain⟨hc,_⟩:=hA.end;cases hc with
  |all hK=>exact RU _
 |t :: l,K,n,E,a,hA,hg=>by
  rcases hA.inv with⟨_,_,_,hc,_⟩|⟨ev,st',E2,k2,hp,I,rfl,rfl⟩
  ·exact absurd rfl hc
  ·obtain⟨S,b2,b3,b4,b5,G,ac,aa⟩:=df hg;have M:=(dP hg hp).1
   have Q:ui ev<=8+ui (er n)/\∃K' u,st'=.live K' u/\u≠0:=by
    cases hp with
    |note hc=>
     rw[m8];have:ui [⟨4,0,t⟩]=6:=rfl;refine⟨by omega,_,_,rfl,?_⟩;unfold jY
     split
     ·decide
     ·rename_i hn;simpa using hn
    |yes hc hR hkk hm=>
     obtain⟨_,_,d3,o,Y,_,Z,_⟩:=fM hR rfl S b2 b3;have ab:=tY (xX hR rfl G);obtain⟨o2,f1,f2⟩:=JV hR S;rw[Y]at f1;have q:=TX f1;subst q;have J:OL o:=λe H=>(Z e H).2.1
     have h1:=Jg J
     have h2:jP 1 o=0:=by
      unfold jP;rw[List.countP_eq_zero];intro e H;have:=(Z e H).2.2;simp;exact this
     rw[Y,m8,m8];have:ui [⟨2,0,t⟩]=6:=rfl;exact⟨by omega,_,_,rfl,by omega⟩
   obtain⟨k1,K',u,rfl,O⟩:=Q;have h2:=IA l K' u E2 k2 I M
   have h3:ui (er u)=0:=by
    unfold er;rw[Eq (by simpa using O)];rfl
   rw[m8,List.length_cons];omega
def Ep (l:List ByteArray):Nat:=(l.map (·.size)).sum
def Jz (a b:List ByteArray):Ep (a++b)=Ep a+Ep b:=by unfold Ep;rw[SN,WG]
def D7:∀(L:List Dc),(∀d∈L,rt d=true)->fF L<=1001*eT L+2*Ep (ou L)
 |[],_=>by simp[fF,eT,ou,Ep]
 |d :: L,h=>by
  have J:=D7 L (λx I=>h x (R1 _ I));have G:fF (d :: L)=ud d+fF L:=rfl;have H:ou (d :: L)=ou [d]++ou L:=by rw[<-ke];rfl
  rw[G,gk,H,Jz]
  have u:ud d<=(if QA d=true then 1001 else 0)+2*Ep (ou [d]):=by
   cases Lw.gu (h d (RZ ..))with
   |text t hq=>
    have:ou [⟨1,t,0,0,false⟩]=[t]:=rfl;rw[this];show 2*t.size+1001<=1001+2*(t.size+0);omega
   |brk n hq=>exact ge _
   |beg n e hq=>exact ge _
   |blank=>exact ge _
   |hard=>exact ge _
   |empty=>exact ge _
   | «end»=>exact ge _
  split at u<;>rename_i hc
  ·rw[Or hc];omega
  ·rw[Eq hc];omega
def uQ:∀(E:List Ev) {u L:List Dc}{s:Sy},fp u s->eX s E=some L->ou L=E.flatMap N9
 |[],u,L,s,hS,h=>(zS hS h).2
 |e :: E,u,L,s,hS,h=>by
  rw[lH]at h;cases G:gq s e with
  |none=>rw[G]at h;cases h
  |some x=>
   obtain⟨H,l⟩:=x;rw[G]at h;simp only at h;obtain⟨L1,h1,h2⟩:=SX.1 h;obtain⟨a1,a2,_⟩:=zR hS G;rw[<-h2,ke,a2,uQ E a1 h1];rfl
def LF (u:OL o):o.flatMap N9=[]:=by
 induction o with
 |nil=>rfl
 |cons e o ih=>
  rw[List.flatMap_cons,ih (λx G=>u x (R1 _ G)),Sg];unfold N9
  rcases u e (RZ ..)with h|h
  ·rw[Or h]
  ·rw[Eq (by omega),Or h]
def BE:∀(l:List Tv) (K:List It) (n:Int) (E:List Ev) (a:Nat),gM (.live K n) l E 0 a->gJ (.live K n)->E.flatMap N9=l.map (·.t)
 |[],K,n,E,a,hA,hg=>by
  obtain⟨hc,_⟩:=hA.end;cases hc with
  |all hK=>rfl
 |t :: l,K,n,E,a,hA,hg=>by
  rcases hA.inv with⟨_,_,_,hc,_⟩|⟨ev,st',G,J,H,u,rfl,rfl⟩
  ·exact absurd rfl hc
  ·obtain⟨s,I⟩:∃s:Sy,s.ks=bV K:=⟨⟨(bV K).map (λk=>⟨k,0,false⟩),[],none,false,false,false⟩,by unfold Sy.ks;rw[List.map_map];exact List.map_id _⟩;obtain⟨o,e,K',n',rfl,rfl,hg',hB,hn,hpl,hlen,rfl⟩:=Aj hg I H;rw[US,US,LF hB,BE l K' n' G J u hg']
   have:N9 ⟨if(t.k==7||t.k==8)=true then 4 else 2,0,t⟩=[t.t]:=by
    by_cases hc:(t.k==7||t.k==8)=true
    ·rw[Or hc];rfl
    ·rw[Eq hc];rfl
   rw[List.flatMap_cons,this];rfl
def nS (s:ByteArray):∀(d a f:Nat),s.size-a<=d->Ep ((Lx.yJ s a f).1.map (λt=>s.extract t.a t.e))<=s.size-a
 |d,a,f,hd=>by
  by_cases I:s.size<=a
  ·rw[Lx.kN s a f I];exact RU _
  ·cases d with
   |zero=>omega
   |succ d=>
   rw[Lx.eK s a f (by omega)]
   split
   ·have:=nS s d (a+1) (f+1) (by omega);omega
   ·split
    ·have:=nS s d (a+1) f (by omega);omega
    ·split
     ·exact RU _
     ·rename_i G
      split
      ·exact RU _
      ·rename_i H
       have J:Lx.aq s a (Lx.au s a)=((Lx.aq s a (Lx.au s a)).1,0):=W6 rfl (by simpa using H);obtain⟨u,M⟩:=Lx.gn s a _ _ (by omega) rfl G J;have O:=nS s d (Lx.aq s a (Lx.au s a)).1 0 (by omega);obtain⟨p,hpp⟩:=ea ((Lx.aq s a (Lx.au s a)).1);rw[hpp]at u M O ⊢
       have Q:(Lx.dM s (Lx.au s a) a p f).e<=p:=by
        show(if Lx.au s a=7 then Lx.bJ s p else p)<=p
        split
        ·exact Lx.gm s p
        ·exact ge _
       have hsz:(s.extract (Lx.dM s (Lx.au s a) a p f).a (Lx.dM s (Lx.au s a) a p f).e).size<=p-a:=by
        rw[Lx.aE s _ _ (by omega)];show(Lx.dM s (Lx.au s a) a p f).e-a<=p-a;omega
       simp only[TF];show(s.extract _ _).size+Ep _<=_;omega
termination_by d=>d
def D8 {s:ByteArray}{a:Nat}{L:List Dc}(G:gM (.live [] 0) (ib s) E 0 a) (u:eX qB E=some L) (hs:s.size<=262144) (hl:(ib s).length<=s.size):fF L<=2147483647/\∀d∈L,rt d=true:=by
 have M:bQ 0 0 L=none:=by have h:=oJ E rV u;rw[SI]at h;exact h
 have H:=Lw.jW L 0 0 M;have I:=D7 L H;have Q:=zu E u;have S:=IA _ _ _ _ _ G dU;have O:ui (er 0)=1:=rfl;have J:ou L=(ib s).map (·.t):=by rw[uQ E rV u];exact BE _ _ _ _ _ G dU
 have Y:Ep ((ib s).map (·.t))<=s.size:=by
  have:=nS s _ 0 0 (ge _);show Ep (((Lx.fY s).1.map (Lx.tv s)).map (·.t))<=_;rw[List.map_map];have e:(λt:Tv=>t.t) ∘ Lx.tv s=λt=>s.extract t.a t.e:=rfl
  rw[e];exact this
 have Z:fq qB=0:=rfl;rw[J]at I;exact⟨by omega,H⟩
open Lw (Dc bE rt bQ cq gK kq bR aS bY)
def IW (w:World) (ao:Option Addr) (l:List Ev):Prop:=∀j e,l[j]?=some e->∃b off,ao=some ⟨b,off,none⟩ /\
 w.cell? ⟨b,off+j*8,none⟩=some (.int .u8 e.k)/\w.cell? ⟨b,off+j*8+1,none⟩=some (.int .u8 e.n)/\w.cell? ⟨b,off+j*8+2,none⟩=some (.int .u8 e.d.k)/\w.cell? ⟨b,off+j*8+3,none⟩=some (.string e.d.t)/\w.cell? ⟨b,off+j*8+4,none⟩=some (Tu e.d.a)/\w.cell? ⟨b,off+j*8+5,none⟩=some (Tu e.d.l)/\w.cell? ⟨b,off+j*8+6,none⟩=some (Tu e.d.c)/\w.cell? ⟨b,off+j*8+7,none⟩=some (Tu e.d.f)
def IW.below {w':World}{l:List Ev}(h:IW w ao l) (M:Below w.heap.size w w'):IW w' ao l:=by
 intro j a J;obtain⟨b,G,I,c0,c1,c2,c3,c4,c5,c6,H⟩:=h j a J;have u:=RV _ _ c0;have e:w'.heap[b]?=w.heap[b]?:=(Kp.of_below (S:=λ_=>False) M).block b u (λh=>h);exact⟨b,G,I,(RX (a:=(Tw b _)) e).trans c0,(RX (a:=(Tw b _)) e).trans c1,(RX (a:=(Tw b _)) e).trans c2,(RX (a:=(Tw b _)) e).trans c3,(RX (a:=(Tw b _)) e).trans c4,(RX (a:=(Tw b _)) e).trans c5,(RX (a:=(Tw b _)) e).trans c6,(RX (a:=(Tw b _)) e).trans H⟩
def Nl {p:Option Addr}{n cap:Nat}{l:List Ev}(h:Re w (.slice p n cap) l):IW w p l:=by
 intro j d G
 rcases h.2 with⟨H,I⟩|⟨g,cap',M,H,_⟩
 ·have:l=[]:=R6 I;subst this;simp at G
 ·cases H
  have hc:∀(k:Nat) (u:Value),(xC l)[k]?=some u->w.cell? (Tw g k)=some u:=λk u J=>by
   have:=Ut h (g:=g) rfl k u J;rw[S8,R3]at this;exact this
  refine⟨g,0,rfl,?_,?_,?_,?_,?_,?_,?_,?_⟩
  ·rw[R3];exact hc _ _ (aP Ev.cs 8 Ev.cs_len l j 0 d _ G rfl)
  ·rw[R3];exact hc _ _ (aP Ev.cs 8 Ev.cs_len l j 1 d _ G rfl)
  ·rw[R3];exact hc _ _ (aP Ev.cs 8 Ev.cs_len l j 2 d _ G rfl)
  ·rw[R3];exact hc _ _ (aP Ev.cs 8 Ev.cs_len l j 3 d _ G rfl)
  ·rw[R3];exact hc _ _ (aP Ev.cs 8 Ev.cs_len l j 4 d _ G rfl)
  ·rw[R3];exact hc _ _ (aP Ev.cs 8 Ev.cs_len l j 5 d _ G rfl)
  ·rw[R3];exact hc _ _ (aP Ev.cs 8 Ev.cs_len l j 6 d _ G rfl)
  ·rw[R3];exact hc _ _ (aP Ev.cs 8 Ev.cs_len l j 7 d _ G rfl)
def IW.kp {S:Nat->Prop}{w w':World}{ao:Option Addr}{l:List Ev}(h:IW w ao l) (O:Kp S w w') (J:∀b u,ao=some (Tw b u)->¬S b):IW w' ao l:=by
 intro j a M;obtain⟨b,u,H,c0,c1,c2,c3,c4,c5,c6,I⟩:=h j a M;have G:=RV _ _ c0;have e:w'.heap[b]?=w.heap[b]?:=O.block b G (J b u H);exact⟨b,u,H,(RX (a:=(Tw b _)) e).trans c0,(RX (a:=(Tw b _)) e).trans c1,(RX (a:=(Tw b _)) e).trans c2,(RX (a:=(Tw b _)) e).trans c3,(RX (a:=(Tw b _)) e).trans c4,(RX (a:=(Tw b _)) e).trans c5,(RX (a:=(Tw b _)) e).trans c6,(RX (a:=(Tw b _)) e).trans I⟩
structure YI (w:World) (ao:Option Addr) (E:List Ev) (g:Nat) (v:Value) (D:List Dc) (st:xx) (S:Nat->Prop) (W:World):Prop where
 bel:Below w.heap.size w W
 sq:Sq S W g st
 sB:∀k,S k->w.heap.size<=k
 rd:Rd W v D
 vB:∀k,v.ownBlock=some k->w.heap.size<=k/\¬S k
 lev:IW W ao E
 eb:∀b off,ao=some ⟨b,off,none⟩->b<W.heap.size/\¬S b/\v.ownBlock≠some b
structure YJ (w:World) (ao:Option Addr) (E:List Ev) (g:Nat) (v x:Value) (D ds:List Dc) (st:xx) (W:World):Prop where
 rv:Rd W v D
 rx:Rd W x ds
 fin:∀v' w',Rd w' v' (D++ds)->Kp (λk=>v.ownBlock=some k) W w'->Nb W v v'->∃S,YI w ao E g v' (D++ds) st S w'
def O9 (h:Rd W v l):∀k,v.ownBlock=some k->k<W.heap.size:=by
 intro k u
 rcases h.2 with⟨rfl,_⟩|⟨b,cap,H,rfl,_,G,_⟩
 ·cases u
 ·simp only[Value.ownBlock,St]at u;subst u;exact ai G
def YI.call {g:Nat}{D:List Dc}{st:xx}{S:Nat->Prop}{W':World}(h:YI w ao E g v D st S W) {x:Value}{ds:List Dc}{st':xx}(hp:Aq S g W W' x ds st'):YJ w ao E g v x D ds st' W':=by
 obtain⟨⟨O,p1,p3,p4⟩,ac,G⟩:=hp;have Z:Below w.heap.size w W':=jk h.bel G (λk H=>h.sB k H) h.bel.size
 have ad:∀k,O k->w.heap.size<=k:=by
  intro k H
  rcases p3 k H with a|a
  ·exact h.sB k a
  ·exact PI h.bel.size a
 have hv:Rd W' v D:=G.row h.rd (λk e=>(h.vB k e).2)
 have M:∀k,v.ownBlock=some k->w.heap.size<=k/\¬O k:=by
  intro k e;refine⟨(h.vB k e).1,λJ=>?_⟩
  rcases p3 k J with a|a
  ·exact(h.vB k e).2 a
  ·have:=O9 h.rd k e;omega
 have ab:IW W' ao E:=h.lev.kp G (λb u e=>(h.eb b u e).2.1)
 have aa:∀b u,ao=some (Tw b u)->b<W'.heap.size/\¬O b:=by
  intro b u e;obtain⟨I,Y,Q⟩:=h.eb b u e;refine⟨R4 I G.size,λJ=>?_⟩
  rcases p3 b J with a|a
  ·exact Y a
  ·omega
 refine⟨hv,ac,λv' w' hr H hn=>⟨O,?_⟩⟩;refine⟨jk Z H (λk e=>(h.vB k e).1) Z.size,p1.kp H (λk J e=>(M k e).2 J),ad,hr,?_,ab.kp H (λb u e=>(h.eb b u e).2.2),?_⟩
 ·intro k e
  rcases hn with I|⟨q,I,hq⟩
  ·exact M k (by rw[<-I];exact e)
  ·rw[I]at e;simp at e;subst e;exact⟨PI Z.size hq,λJ=>by have:=p1.lt _ J;omega⟩
 ·intro b u e;obtain⟨I,Y⟩:=aa b u e;refine⟨R4 I H.size,Y,?_⟩
  rcases hn with Q|⟨q,Q,hq⟩
  ·rw[Q];exact(h.eb b u e).2.2
  ·rw[Q];intro e4;simp at e4;omega
def EH :eX s (e :: r)=match gq s e with|none=>none|some (s',l)=>(eX s' r).map (l++·):=rfl
def RD (W:World) (n:Nat):Option (List Dc)->Ending->World->Prop
 |some L,r,w'=>∃p c,Uk r (.tuple #[.slice p L.length c,.int .i64 0])/\Rd w' (.slice p L.length c) L/\Below W.heap.size W w'/\L.length<=12*n+12
 |none,r,w'=>∃c:Int,c≠0/\Uk r (.tuple #[.slice none 0 0,.int .i64 c])/\Below W.heap.size W w'
set_option maxHeartbeats 2000000 in
def wh {O:Nat->Prop}(n:bF) (pn:Option Addr) (cn:Nat) (W:World) (ht:TN O W n (.slice pn n.c.length cn)) {E:List Ev}(al:mV n=E) (hl:E.length<=30000000) (au:∀e∈E,e.d.t.size<=9223372036854775807) :
  Sa 14 #[dm n.k n.d (.slice pn n.c.length cn)] W (RD W E.length (eX qB E)):=by
 obtain⟨X,hL⟩:=ea (eX qB E);rw[hL];obtain⟨W0,e0⟩:=ea (W.alloc (bj n.k n.d (.slice pn n.c.length cn)));obtain⟨g0,hg0⟩:=ea W.heap.size;have ac:Below W.heap.size W W0:=by rw[<-e0];exact(gt _ _).alloc (ge _) _
 have H0:Hid (Below W.heap.size W W0/\W0.heap[g0]?=some (bj n.k n.d (.slice pn n.c.length cn))):=⟨ac,by rw[<-e0,<-hg0];exact ak _ _⟩;have HM:Hid (E.length<=30000000/\∀e∈E,e.d.t.size<=9223372036854775807):=⟨hl,au⟩
 have av:Hid (∀V,Below W0.heap.size W0 V->Sa 34 #[dm n.k n.d (.slice pn n.c.length cn)] V λr w'=>∃p c,Uk r (.slice p E.length c)/\IW w' p E/\Below V.heap.size V w'/\(∀b J,p=some (Tw b J)->V.heap.size<=b/\b<w'.heap.size)):=λV hb=>by
  have G:Below W.heap.size W V:=ac.trans (hb.mono ac.size);refine(yM n _ V (TN.see n _ (TN.kp (Kp.of_below (S:=λ_=>False) G) (λ_ _ h=>h) n _ ht)) (by rw[al];omega)).mono ?_;rintro r w'⟨v',rfl,h1,h2,h3⟩;rw[al]at h2;obtain⟨p',c',e,_⟩:=h2.shape;subst e;refine⟨p',c',rfl,Nl h2,h1,λb J e=>?_⟩;subst e
  have ad:b<w'.heap.size:=by
   rcases h2.2 with⟨h9,_⟩|⟨b9,az,ba,h9,_,aw,_⟩
   ·cases h9
   ·cases h9;exact ai aw
  exact⟨h3 b rfl,ad⟩
 have ae:=aW yw;have HL:=aW hL;dsimp only[bj]at e0;clear hl au ac ht al hL;go_enter Tryz.func14,Tryz.ntmps14;(go_wp2_with fail)
 try rw[e0]
 try rw[hg0]
 clear e0;refine(ae.out _).mono ?_;rintro r w5⟨rfl,hq,hb⟩;obtain⟨g,hg⟩:=ea W0.heap.size;have HQ:Hid (Sq (λk=>k=g) w5 g (.live qB)/\Below W0.heap.size W0 w5):=by rw[<-hg];exact⟨hq,hb⟩
 obtain⟨⟨c0,c1,c2,c3,c4,c5,c6,c7⟩,cl⟩:=aC (af H0.out.2 hb);have ay:g<w5.heap.size:=HQ.out.1.lt g rfl;clear hq hb ae;(go_wp2_with fail);refine(av.out _ HQ.out.2).mono ?_;rintro r w6⟨ao,ca,rfl,an,aj,ah⟩
 try rw[hg]
 have HI:Hid (∃S,YI W0 ao E g (.slice none 0 0) [] (.live qB) S w6):=⟨_,HQ.out.2.trans (aj.mono HQ.out.2.size),HQ.out.1.below aj,λk e=>by rw[e,hg];exact ge _,lL _,(λk e=>by cases e),an,λb J e=>⟨(ah b J e).2,(λe'=>by have e2:b=g:=e';have:=(ah b J e).1;omega),(λe=>by cases e)⟩⟩;clear an aj ah c0 c1 c2 c3 c4 c5 c6 c7 cl ay hg;(go_wp2_with fail)
 go_loopw [5,7,8,9,16] (λv _ _ _ i wr=>∃j:Nat,j<=E.length/\i=Tu j/\Hid (∃S s D,YI W0 ao E g v D (.live s) S wr/\eX qB E=(eX s (E.drop j)).map (D++·)/\D.length+eU s<=12*j/\s.ns.length<=j/\Mo s)) (λ_ _ _ _ i _=>E.length-(intOf i).toNat)
 case atStart=>
  obtain⟨S,H⟩:=HI.out;exact⟨0,RU _,rfl,S,_,[],H,by simp,by decide,by decide,λm hm=>by cases hm⟩
 case round=>
  obtain⟨j,hj,rfl,HJ⟩:=hrel;obtain⟨S,s,D,H,hR,hz,hn,hm⟩:=HJ.out;obtain⟨pv,cpv,hv,_⟩:=bv H.rd;subst hv;obtain⟨hEl,hEt⟩:=HM.out;have ab:Qo (.live s):=M4 (j:=j) (by omega) hn hm (by omega)
  by_cases ad:j<E.length
  ·have q1:(j:Int)<E.length:=by omega
   have q0:(0:Int)<=j:=by omega
   obtain⟨t,hT⟩:∃t,E[j]?=some t:=⟨_,Pi ad⟩
   have pY:E.drop j=t :: E.drop (j+1):=by
    obtain⟨a1,a2⟩:=RY.1 hT;rw[Sz a1,a2]
   have ar:=hEt t (SF hT);obtain⟨b,J,rfl,x0,x1,x2,x3,x4,x5,x6,x7⟩:=H.lev j t hT;rw[pY,EH]at hR;have M:Below wr.heap.size wr (wr.alloc (DS t.k t.n t.d)):=(gt _ _).alloc (ge _) _;obtain⟨V1,eV1⟩:=ea (wr.alloc (DS t.k t.n t.d));rw[eV1]at M;have Y:YI W0 (some (Tw b J)) E g (.slice pv D.length cpv) D (.live s) S V1:=⟨H.bel.trans (M.mono H.bel.size),H.sq.below M,H.sB,aU H.rd M,H.vB,H.lev.below M,λb' ag e=>⟨R4 (H.eb b' ag e).1 M.size,(H.eb b' ag e).2⟩⟩;obtain⟨g7,hg7⟩:=ea wr.heap.size;have aq:V1.heap[g7]?=some (DS t.k t.n t.d):=by rw[<-eV1,<-hg7];exact ak _ _
   obtain⟨⟨y0,y1,y2,y3,y4,y5,y6,y7⟩,yl⟩:=pH aq;have hP:=EC Y.sq ab t ar;clear HJ HI pY hT ab ar hEt H aq;cases hs:gq s t with
   |none=>
    rw[hs,HL.out]at hR;have Q:yn t (.live s)=(130,[],.live s):=by show(match gq s t with|none=>_|some (s',l)=>_)=_;rw[hs]
    rw[Q]at hP;obtain rfl:X=none:=hR;have HP:=aW hP;have HN:=aW λw' x (G:Aq S g V1 w' x [] (.live s))=>H0.out.1.trans ((jk Y.bel G.2.2 (λk hk=>Y.sB k hk) Y.bel.size).mono H0.out.1.size)
    dsimp only[DS]at eV1;clear Y hP Q hs hz hn hm M;(go_wp2_with fail)
    try rw[eV1]
    try rw[hg7]
    clear eV1 hg7;refine HP.out.mono ?_;rintro r w7⟨x,rfl,G⟩;have Z:=aW (HN.out _ _ G);clear G y0 y1 y2 y3 y4 y5 y6 y7 yl;(go_wp2_with fail);refine R0 (v:=.tuple #[.slice none 0 0,Tu 130]) (by simp[results,Tryz.f14,go_sem]) rfl ?_;exact⟨130,by decide,rfl,Z.out⟩
   |some pr=>
    obtain⟨s',u⟩:=pr;rw[hs]at hR;have Q:yn t (.live s)=(0,u,.live s'):=by show(match gq s t with|none=>_|some (s',l)=>_)=_;rw[hs]
    rw[Q]at hP;have HP:=aW hP;have HN:=aW λw' x (G:Aq S g V1 w' x u (.live s'))=>Y.call G
    obtain⟨z1,z2,z3⟩:=Ki hs;have ap:eX qB E=((eX s' (E.drop (j+1))).map (u++·)).map (D++·):=hR;have HK:Hid (eX qB E=(eX s' (E.drop (j+1))).map ((D++u)++·)/\(D++u).length+eU s'<=12*(j+1)/\s'.ns.length<=j+1/\Mo s'/\D.length+u.length<=1000000000000):=⟨by rw[ap];generalize eX s' (E.drop (j+1))=o;cases o<;>simp,by rw[IO];omega,by omega,z3 hm,by omega⟩;dsimp only[DS]at eV1;clear Y hR ap hP Q hs hz hn hm z1 z2 z3 M;(go_wp2_with fail)
    try rw[eV1]
    try rw[hg7]
    clear eV1 hg7;refine HP.out.mono ?_;rintro r w7⟨x,rfl,G⟩;have Z:=aW (HN.out _ _ G);obtain⟨px,cx,hxs,_⟩:=bv Z.out.rx;subst hxs;clear G y0 y1 y2 y3 y4 y5 y6 y7 yl
    go_wp2_with(at_builtin;refine Iz (by rfl) _ _ (by rfl) (.slice pv D.length cpv) (.slice px u.length cx) D u (by rfl) Z.out.rv (by rfl) Z.out.rx HK.out.2.2.2.2 ?_;intro v3 w8 h3 k3 n3;have H7:=aW (Z.out.fin _ _ h3 k3 n3);clear h3 k3 n3)
    obtain⟨S3,ax⟩:=H7.out;exact⟨⟨j+1,ad,by go_num,S3,s',D++u,ax,HK.out.1,HK.out.2.1,HK.out.2.2.1,HK.out.2.2.2.1⟩,by simp[intOf];omega⟩
  ·obtain rfl:j=E.length:=by omega
   have q1:¬((E.length:Int)<E.length):=by omega
   rw[T7]at hR;have aa:eX qB E=(kn s).map (D++·):=hR;have hP:=xV H.sq ab;have G:yu (.live s)=(match kn s with|none=>(130,[],.live s)|some l=>(0,l,.done)):=rfl;cases I:kn s with
   |none=>
    rw[I,HL.out]at aa;obtain rfl:X=none:=aa;rw[G,I]at hP;have HP:=aW hP;have HN:=aW λw' x (G:Aq S g wr w' x [] (.live s))=>H0.out.1.trans ((jk H.bel G.2.2 (λk hk=>H.sB k hk) H.bel.size).mono H0.out.1.size)
    clear H hR hP G I hz hn hm HJ HI ab hEt;(go_wp2_with fail);refine HP.out.mono ?_;rintro r w7⟨x,rfl,G⟩;have Z:=aW (HN.out _ _ G);clear G;(go_wp2_with fail);refine R0 (v:=.tuple #[.slice none 0 0,Tu 130]) (by simp[results,Tryz.f14,go_sem]) rfl ?_;exact⟨130,by decide,rfl,Z.out⟩
   |some u=>
    have Q:yu (.live s)=(0,u,.done):=by
     rw[G,I]
    have gz:u.length<=eU s+1:=by
     have h1:u=s.endl.ws:=by
      unfold kn at I
      split at I
      ·exact(SJ I).symm
      ·cases I
     rw[h1];unfold Sy.endl eU
     split
     ·show(dH :: s.ws).length<=_;simp only[List.length_cons];omega
     ·omega
    rw[Q]at hP;have HP:=aW hP;have HN:=aW λw' x (G:Aq S g wr w' x u .done)=>H.call G
    have HK:Hid (X=some (D++u)/\D.length+u.length<=12*E.length+12/\D.length+u.length<=1000000000000):=by
     refine⟨?_,by omega,by omega⟩;rw[I,HL.out]at aa;exact aa
    clear H hR aa hP Q I gz hz hn hm HJ HI ab hEt;(go_wp2_with fail);refine HP.out.mono ?_;rintro r w7⟨x,rfl,G⟩;have Z:=aW (HN.out _ _ G);obtain⟨px,cx,hxs,_⟩:=bv Z.out.rx;subst hxs;clear G
    go_wp2_with(at_builtin;refine Iz (by rfl) _ _ (by rfl) (.slice pv D.length cpv) (.slice px u.length cx) D u (by rfl) Z.out.rv (by rfl) Z.out.rx HK.out.2.2 ?_;intro v3 w8 h3 k3 n3;have H7:=aW (Z.out.fin _ _ h3 k3 n3);obtain⟨p3,c3,e3,_⟩:=bv h3;rw[IO]at e3;subst e3;clear h3 k3 n3)
    obtain⟨S7,am⟩:=H7.out;obtain⟨k1,k2,k3⟩:=HK.out;refine R0 (v:=.tuple #[.slice p3 (D.length+u.length) c3,Tu 0]) (by simp[results,Tryz.f14,go_sem]) rfl ?_;rw[k1];refine⟨p3,c3,by rw[IO],by rw[IO]at *;exact am.rd,H0.out.1.trans (am.bel.mono H0.out.1.size),by rw[IO];exact k2⟩
