import Derived.Test.YthfjlkfeeglfmaaGreatDoorM03
import Derived.Test.YthfjlkfeeglfmaaGreatDoorM24
import Derived.Test.YthfjlkfeeglfmaaGreatDoorM40
set_option linter.all false
namespace Go.Proofs.YthfjlkfeeglfmaaGreatDoor
open Go.RowKit
open Lw (Dc bE rt bQ cq gK kq)
variable {s:Sy}{L l:List Dc}{t:Tv}{K:List It}
def jK:Int->List Dc->Option Int
 |o,[]=>some o
 |o,d :: r=>if rt d=true/\0<=o+cq d.k then jK (o+cq d.k) r else none
def nr:∀(a:List Dc) (o:Int) (b:List Dc),jK o (a++b)=(jK o a).bind (λx=>jK x b)
 |[],o,b=>rfl
 |d :: a,o,b=>by
  simp only[R7,jK]
  split
  ·exact nr a _ b
  ·rfl
def Fb:∀(a:List Dc) {o x:Int},0<=o->jK o a=some x->0<=x
 |[],o,x,h,e=>by cases e;exact h
 |d :: a,o,x,h,e=>by
  simp only[jK]at e
  split at e
  ·rename_i hc;exact Fb a hc.2 e
  ·cases e
def AU:∀(l:List Dc) (o:Int) (j:Nat),jK o l=some 0->bQ o j l=none
 |[],o,j,h=>by cases h;rfl
 |d :: l,o,j,h=>by
  simp only[jK]at h;simp only[bQ]
  split at h
  ·rename_i hc;rw[Or hc];exact AU l _ _ h
  ·cases h
def OS (d:Dc):Prop:=rt d=true/\cq d.k=0
def FV:OS dS:=⟨rfl,rfl⟩
def sR:OS dH:=⟨rfl,rfl⟩
def FW:OS dE:=⟨rfl,rfl⟩
def sQ {t:ByteArray}(h:gK t=true):OS (dT t):=⟨by simp[rt,dT,h],rfl⟩
def eE {d:Dc}(hd:OS d) (a b:List Dc) {o:Int}(u:0<=o):jK o (a++d :: b)=jK o (a++b):=by
 rw[nr,nr];cases h:jK o a with
 |none=>rfl
 |some x=>
  have G:=Fb a u h;show jK x (d :: b)=jK x b;simp only[jK];rw[hd.2,Or ⟨hd.1,by omega⟩,Int.add_zero]
def so {o:Int}{a:List Dc}{x:Int}(h:jK o a=some x) {d:Dc}(hd:rt d=true) (u:0<=x+cq d.k):jK o (a++[d])=some (x+cq d.k):=by
 rw[nr,h];show jK x [d]=_;simp only[jK];rw[Or ⟨hd,u⟩]
def Pz.fine:Pz->Prop
 |.I n=>n<=4
 |_=>True
def KX {p:Pz}(h:p.fine):rt p.d=true:=by
 cases p with
 |I n=>
  have u:n<=4:=h
  rcases n with _|_|_|_|_|n
  ·rfl
  ·rfl
  ·rfl
  ·rfl
  ·rfl
  ·omega
 |_=>rfl
def AT (a:Fx):∀p∈a.pz,p.fine:=by
 cases a<;>simp[Fx.pz,Pz.fine]
def N5 (p:Pz):p.d.k≠1:=by cases p<;>(intro h;exact absurd h (by show ¬(_:Int)=1;simp[Pz.d,dS,dB,dH,dI,dX]))
def wL (p:Pz) (h:p≠.X):cq p.d.k=(p.n:Int):=by cases p<;>first|rfl|exact absurd rfl h
structure fp (L:List Dc) (s:Sy):Prop where
 r:jK 0 (L++s.ws)=some (cy s.ns:Int)
 n:∀d∈s.ws,d.k≠1
def Sy.ks (s:Sy):List Int:=s.ns.map (·.k)
def P0 (s:Sy) (p:Pz):(s.aw p).ks=s.ks:=by
 show(gX p s.ns).map (·.k)=s.ns.map (·.k)
 cases s.ns with
 |nil=>rfl
 |cons n r=>simp only[gX];split<;>rfl
def yZ (s:Sy) (l:List Pz):(s.aws l).ks=s.ks:=by
 induction l generalizing s with
 |nil=>rfl
 |cons p l ih=>rw[eO,ih,P0]
def fp.aw (h:fp L s) (Q:s.ns≠[]) {p:Pz}(S:p.fine):fp L (s.aw p):=by
 obtain⟨n,r,e⟩:∃n r,s.ns=n :: r:=by cases O:s.ns with|nil=>exact absurd O Q|cons n r=>exact⟨n,r,rfl⟩
 have H:=h.r;rw[e,bf]at H;refine⟨?_,?_⟩
 ·show jK 0 (L++(s.ws++jQ p s.ns))=some (cy (gX p s.ns):Int);rw[e]
  by_cases G:p=.X
  ·subst G;have I:gX .X (n :: r)={ n with b:=n.b-1 } :: r:=rfl;rw[I,bf]
   by_cases J:n.b=0
   ·have u:jQ .X (n :: r)=[]:=Or ⟨rfl,J⟩;rw[u,Sg,H];show some ((n.b+cy r:Nat):Int)=some ((n.b-1+cy r:Nat):Int);rw[J]
   ·have u:jQ .X (n :: r)=[dX]:=Eq (λh=>J h.2);rw[u,<-RW,so H (d:=dX) rfl (by show 0<=_+(-1:Int);omega)];show some ((n.b+cy r:Nat)+(-1:Int))=some ((n.b-1+cy r:Nat):Int)
    congr 1;omega
  ·have u:jQ p (n :: r)=[p.d]:=Eq (λh=>G h.1);have I:gX p (n :: r)={ n with b:=n.b+p.n } :: r:=by simp only[gX];rw[Eq G]
   rw[u,I,bf,<-RW,so H (KX S) (by rw[wL p G];omega),wL p G];show some ((n.b+cy r:Nat)+(p.n:Int))=some ((n.b+p.n+cy r:Nat):Int)
   congr 1;omega
 ·intro d hd;have M:d∈s.ws++jQ p s.ns:=hd
  rcases Ss.1 M with hd|hd
  ·exact h.n d hd
  ·unfold jQ at hd
   split at hd
   ·cases hd
   ·rw[Uc]at hd;rw[hd];exact N5 p
def fp.aws {L:List Dc}{s:Sy}(h:fp L s) (u:s.ns≠[]) (l:List Pz) (hl:∀p∈l,p.fine):fp L (s.aws l):=by
 induction l generalizing s with
 |nil=>exact h
 |cons p l ih=>rw[eO];exact ih (h.aw u (hl p (RZ ..))) (mO u p) (λq G=>hl q (R1 _ G))
def Oz (l:List Pz) (h:s.ns≠[]):(s.aws l).ns≠[]:=by
 induction l generalizing s with
 |nil=>exact h
 |cons p l ih=>rw[eO];exact ih (mO h p)
def fp.ins (h:fp L s) {d:Dc}(hd:OS d) (I:d.k≠1) (a b:List Dc) (G:s.ws=a++b):fp L { s with ws:=a++d :: b }:=by
 refine⟨?_,?_⟩
 ·show jK 0 (L++(a++d :: b))=_;rw[<-RW,eE hd _ _ (TH 0),RW,<-G];exact h.r
 ·intro x u;have H:x∈a++d :: b:=u
  rcases Ss.1 H with u|u
  ·exact h.n x (by rw[G];exact TV _ u)
  ·rcases Sm.1 u with rfl|u
   ·exact I
   ·exact h.n x (by rw[G];exact To _ u)
def fp.exprIn (h:fp L s):fp L s.exprIn/\s.exprIn.ks=s.ks:=by
 unfold Sy.exprIn
 split
 ·exact⟨h,rfl⟩
 ·rename_i n r e
  have I:s.ns≠[]:=by rw[e];exact List.cons_ne_nil _ _
  have ek:s.ks=n.k :: r.map (·.k):=by unfold Sy.ks;rw[e];rfl
  refine⟨?_,by rw[ek];rfl⟩
  by_cases u:n.k=19
  ·simp only[Or u];have G:=h.aws I [.S,.I 3] (by simp[Pz.fine])
   have J:(s.aws [.S,.I 3]).ns=⟨n.k,n.b+0+1,n.s⟩ :: r:=by
    show gX (.I 3) (gX .S s.ns)=_;rw[e];rfl
   refine⟨?_,G.n⟩;have:=G.r;rw[J,bf]at this;show jK 0 (L++(s.aws [.S,.I 3]).ws)=some (cy (⟨n.k,n.b+1,true⟩ :: r):Int);rw[bf];exact this
  ·by_cases H:n.k=31/\n.s=false
   ·simp only[Eq u,Or H];have G:=h.aws I [.B0] (by simp[Pz.fine])
    have J:(s.aws [.B0]).ns=⟨n.k,n.b+0,n.s⟩ :: r:=by
     show gX .B0 s.ns=_;rw[e];rfl
    refine⟨?_,G.n⟩;have:=G.r;rw[J,bf]at this;show jK 0 (L++(s.aws [.B0]).ws)=some (cy (⟨n.k,n.b,true⟩ :: r):Int);rw[bf];exact this
   ·simp only[Eq u,Eq H];refine⟨?_,h.n⟩;have:=h.r;rw[e,bf]at this;show jK 0 (L++s.ws)=some (cy (⟨n.k,n.b,true⟩ :: r):Int);rw[bf];exact this
def fp.mark (h:fp L s) (k:Int):fp L (s.mark k)/\(s.mark k).ks=s.ks:=by
 unfold Sy.mark
 split
 ·exact⟨⟨h.r,h.n⟩,rfl⟩
 ·exact⟨h,rfl⟩
def fp.opens (h:fp L s) (k:Int):fp L (s.opens k)/\(s.opens k).ks=k :: s.ks:=by
 obtain⟨u,H⟩:=ea (if k=21 then s.exprIn else s)
 have I:fp L u/\u.ks=s.ks:=by
  rw[<-H];split
  ·exact h.exprIn
  ·exact⟨h,rfl⟩
 obtain⟨J,M⟩:=I.1.mark k;have e:s.opens k=Sy.aws { (u.mark k)with ns:=⟨k,0,false⟩ :: (u.mark k).ns } (uk k):=by unfold Sy.opens;simp only;rw[H]
 rw[e]
 have O:fp L { (u.mark k)with ns:=⟨k,0,false⟩ :: (u.mark k).ns }:=by
  refine⟨?_,J.n⟩;have:=J.r;show jK 0 (L++(u.mark k).ws)=some (cy (⟨k,0,false⟩ :: (u.mark k).ns):Int);rw[bf,this];show some _=some ((0+cy (u.mark k).ns:Nat):Int);rw[R3]
 refine⟨O.aws (List.cons_ne_nil _ _) _ ?_,?_⟩
 ·intro p G;unfold uk at G
  split at G
  ·simp at G;subst G;show(0:Nat)<=4;decide
  ·split at G
   ·simp at G;subst G;show(2:Nat)<=4;decide
   ·cases G
 ·rw[yZ];show k :: (u.mark k).ks=_;rw[M,I.2]
def vk:∀(b:Nat) {a:List Dc}{x:Nat},jK 0 a=some ((b+x:Nat):Int)->jK 0 (a++List.replicate b dX)=some (x:Int)
 |0,a,x,h=>by rw[List.replicate_zero,Sg,h,R3]
 |b+1,a,x,h=>by
  have u:=so h (d:=dX) rfl (by show 0<=_+(-1:Int);omega);rw[List.replicate_succ,show a++dX :: List.replicate b dX=(a++[dX])++List.replicate b dX by simp];refine vk b ?_;rw[u];show some (((b+1+x:Nat):Int)+(-1:Int))=_
  congr 1;omega
def fp.leaves (h:fp L s):fp L s.leaves/\s.leaves.ks=s.ks.tail:=by
 unfold Sy.leaves
 split
 ·rename_i e;exact⟨h,by unfold Sy.ks;rw[e];rfl⟩
 ·rename_i n r e
  have H:=h.r;rw[e,bf]at H;have G:=vk n.b H;refine⟨⟨?_,?_⟩,by unfold Sy.ks;rw[e];rfl⟩
  ·show jK 0 (L++(s.ws++List.replicate n.b dX++(if n.k=1 then[dH]else[])))=some (cy r:Int);rw[<-RW,<-RW]
   split
   ·rw[eE sR _ [] (TH 0),Sg];exact G
   ·rw[Sg];exact G
  ·intro d hd;have u:d∈s.ws++List.replicate n.b dX++(if n.k=1 then[dH]else[]):=hd
   rcases Ss.1 u with hd|hd
   ·rcases Ss.1 hd with hd|hd
    ·exact h.n d hd
    ·rw[List.eq_of_mem_replicate hd];decide
   ·split at hd
    ·rw[Uc]at hd;rw[hd];decide
    ·cases hd
def fp.emp (h:fp L s) (f:Int):fp L (s.emp f):=by
 unfold Sy.emp
 split
 ·exact h
 ·split
  ·exact h
  ·rename_i m _ _;exact h.ins FW (by decide) _ _ (Tm m s.ws).symm
def fp.endl (h:fp L s):fp L s.endl:=by
 unfold Sy.endl
 split
 ·exact h.ins sR (by decide) [] s.ws rfl
 ·exact h
def fp.part (h:fp L s):fp L s.part:=by
 unfold Sy.part
 split
 ·exact h.ins FV (by decide) s.ws [] (Sg _).symm
 ·exact h
def ou (l:List Dc):List ByteArray:=l.filterMap (λd=>if d.k=1 then some d.t else none)
def ke (a b:List Dc):ou (a++b)=ou a++ou b:=List.filterMap_append
def kc (h:∀d∈l,d.k≠1):ou l=[]:=by
 unfold ou;rw[List.filterMap_eq_nil_iff];intro d hd;rw[Eq (h d hd)]
def fp.leaf (h:fp L s) (u:s.ns≠[]) (t:Tv) (ht:gK t.t=true):fp (L++(s.leaf t).2) (s.leaf t).1/\ou (s.leaf t).2=[t.t]/\(s.leaf t).1.ks=s.ks:=by
 unfold Sy.leaf
 split
 ·rename_i e;exact absurd e u
 ·rename_i n r e
  have I:fp L (s.ready (bi n t).a t.f):=((((h.aws u _ (AT _)).emp t.f).endl).part);have H:(s.ready (bi n t).a t.f).ns≠[]:=by unfold Sy.ready;rw[nD,kP,tC];exact Oz _ u
  have G:(s.ready (bi n t).a t.f).ks=s.ks:=by unfold Sy.ready Sy.ks;rw[nD,kP,tC];exact yZ s _
  refine⟨?_,?_,?_⟩
  ·show fp (L++((s.ready (bi n t).a t.f).ws++[dT t.t])) (Sy.aws ⟨(s.ready (bi n t).a t.f).ns,[],none,true,false,false⟩ _);refine fp.aws (s:=⟨_,[],none,true,false,false⟩) ⟨?_,λd hd=>(nomatch (show d∈([]:List Dc)from hd))⟩ H _ (AT _);show jK 0 (L++((s.ready (bi n t).a t.f).ws++[dT t.t])++[])=_;rw[Sg,<-RW,eE (sQ ht) _ [] (TH 0),Sg];exact I.r
  ·show ou ((s.ready (bi n t).a t.f).ws++[dT t.t])=_;rw[ke,kc I.n];rfl
  ·show(Sy.aws ⟨(s.ready (bi n t).a t.f).ns,[],none,true,false,false⟩ _).ks=_;rw[yZ];exact G
def fp.note {L:List Dc}{s:Sy}(h:fp L s) (t:Tv) (ht:gK t.t=true):fp (L++(s.note t).2) (s.note t).1/\ou (s.note t).2=[t.t]/\(s.note t).1.ks=s.ks:=by
 have G:s.ws.takeWhile br++s.ws.dropWhile br=s.ws:=Un;obtain⟨bg,I⟩:=ea (s.ws.takeWhile br);obtain⟨u,hrs⟩:=ea (s.ws.dropWhile br);rw[I,hrs]at G;have H:∀d∈bg,d.k≠1:=λd hd=>h.n d (by rw[<-G];exact TV _ hd)
 have J:∀d∈u,d.k≠1:=λd hd=>h.n d (by rw[<-G];exact To _ hd)
 have M:=h.r;rw[<-G]at M;unfold Sy.note;rw[I,hrs];simp only
 split
 ·refine⟨⟨?_,J⟩,?_,rfl⟩
  ·show jK 0 ((L++(bg++[dS,dT t.t]))++u)=_;rw[show(L++(bg++[dS,dT t.t]))++u=(L++bg)++dS :: (dT t.t :: u)by simp,eE FV _ _ (TH 0),eE (sQ ht) _ _ (TH 0),RW];exact M
  ·show ou (bg++[dS,dT t.t])=_;rw[ke,kc H];rfl
 ·refine⟨⟨?_,J⟩,?_,rfl⟩
  ·show jK 0 ((L++(bg++dH :: ((if _ then[dE]else[])++[dT t.t])))++u)=_
   split
   ·rw[show(L++(bg++dH :: ([dE]++[dT t.t])))++u=(L++bg)++dH :: (dE :: (dT t.t :: u))by simp,eE sR _ _ (TH 0),eE FW _ _ (TH 0),eE (sQ ht) _ _ (TH 0),RW];exact M
   ·rw[show(L++(bg++dH :: ([]++[dT t.t])))++u=(L++bg)++dH :: (dT t.t :: u)by simp,eE sR _ _ (TH 0),eE (sQ ht) _ _ (TH 0),RW];exact M
  ·show ou (bg++dH :: ((if _ then[dE]else[])++[dT t.t]))=_;rw[ke,kc H]
   split<;>rfl
def RM (e:Ev) (ks:List Int):List Int:=if e.k=1 then e.n :: ks else if e.k=3 then ks.tail else ks
def N9 (e:Ev):List ByteArray:=if e.k=1 then[]else if e.k=3 then[]else[e.d.t]
def zR {s':Sy}{e:Ev}(h:fp L s) (I:gq s e=some (s',l)):fp (L++l) s'/\ou l=N9 e/\s'.ks=RM e s.ks:=by
 unfold gq at I
 split at I
 ·rename_i u
  have M:=SJ I;obtain⟨S,Y⟩:(s.step e).1=s'/\(s.step e).2=l:=⟨by rw[M],by rw[M]⟩;rw[<-S,<-Y];unfold Sy.may at u;unfold Sy.step N9 RM
  by_cases G:e.k=1
  ·rw[Or G,Or G,Or G];show fp (L++[]) (s.opens e.n)/\ou []=[]/\_;rw[Sg];exact⟨(h.opens e.n).1,rfl,(h.opens e.n).2⟩
  ·rw[Eq G,Eq G,Eq G];rw[Eq G]at u
   by_cases H:e.k=3
   ·rw[Or H,Or H,Or H];show fp (L++[]) s.leaves/\ou []=[]/\_;rw[Sg];exact⟨h.leaves.1,rfl,h.leaves.2⟩
   ·rw[Eq H,Eq H,Eq H];rw[Eq H]at u
    by_cases O:e.k=2
    ·rw[Or O]at u ⊢;rw[Sf]at u;have J:s.ns≠[]:=by intro Z;rw[Z]at u;exact absurd u.1 (by decide)
     exact h.leaf J e.d u.2
    ·rw[Eq O]at u ⊢
     by_cases Q:e.k=4
     ·rw[Or Q,Sf,Sf]at u;exact h.note e.d u.2.1
     ·rw[Eq Q]at u;cases u
 ·cases I
def rV:fp [] qB:=⟨rfl,λd hd=>by cases hd⟩
def zS (h:fp L s) (hc:kn s=some l):bQ 0 0 (L++l)=none/\ou l=[]:=by
 unfold kn at hc
 split at hc
 ·rename_i H
  cases hc;have u:=h.endl;have G:=u.r;rw[kP,H]at G;exact⟨AU _ _ _ G,kc u.n⟩
 ·cases hc
def OL (o:List Ev):Prop:=∀e∈o,e.k=1\/e.k=3
open Lw (Dc bE rt bQ cq gK kq kC DV)
def EW {k:Nat}{n:Int}{E:List Ev}{R:Ro}(h:Ru t k K n E R):∀{L:List It}{m:Int}{F:List Ev},R=.yes L m F->(∀e∈E,e.k=1->1<=e.n/\e.n<=32)->∀e∈F,e.k=1->1<=e.n/\e.n<=32:=by
 induction h with
 |nil=>intro L m F h;cases h
 |ref _=>intro L m F h;cases h
 |tk hs=>intro L m F h H;cases h;exact H
 |go hs _ ih=>
  rename_i k i K n d E o r R _
  intro L m F h H;refine ih h (λe J=>(Ss.1 J).elim (H e) (λG=>?_));cases i with
  |fl x=>
   have O:∃m,x=.mt m:=by
    cases x with
    |mt m=>exact⟨m,rfl⟩
    |_=>simp only[It.step,Fl.step]at hs;split at hs<;>cases hs
   obtain⟨m,rfl⟩:=O;have I:=jS t m;simp only[It.step,Fl.step]at hs;cases u:M.row t m with
   |ref=>rw[u]at hs;cases hs
   |ex r'=>rw[u]at hs;cases hs;simp at G
   |op nd r'=>
    rw[u]at hs I;cases hs;simp at G;subst G;intro _;have:=I.2.2.2;exact⟨by show 1<=nd;omega,this.2⟩
  |lv a=>cases hs;simp at G;subst G;intro h;cases h
  |once p=>cases hs;simp at G
  |again p=>cases hs;simp at G
  |all r'=>cases hs;simp at G
def DL (n:Int):OL (er n)/\(∀e∈er n,e.k=1->1<=e.n/\e.n<=32):=by
 unfold er
 split
 ·exact⟨λe u=>by simp at u;subst u;exact .inl rfl,λe u _=>by simp at u;subst u;exact⟨by decide,by decide⟩⟩
 ·exact⟨λe u=>by simp at u,λe u=>by simp at u⟩
def Aj {n:Int}{ev:List Ev}{st':mf}(M:gJ (.live K n)) (O:s.ks=bV K) (Q:jE t (.live K n) ev 0 st') :
  ∃o e K' S,ev=o++[e]/\st'=.live K' S/\gJ (.live K' S)/\OL o/\(∀e∈o,e.k=1->1<=e.n/\e.n<=32)/\cW s.ks o=some (bV K')/\1<=(bV K').length/\e=⟨if(t.k==7||t.k==8)=true then 4 else 2,0,t⟩:=by
 obtain⟨Y,Z,b3,I,b5,u,ab,aa⟩:=df M;obtain⟨c1,c2⟩:=DL n;have H:=(dP M Q).1;cases Q with
 |note hc=>
  exact⟨er n,_,_,_,rfl,rfl,H,c1,c2,by rw[O];exact I,tY u,by rw[Or hc]⟩
 |yes hc hR hkk hm=>
  rename_i L m E kk
  obtain⟨d1,d2,d3,o,J,d5,d6,d7⟩:=fM hR rfl Y Z b3;have hn:=EW hR rfl c2;have hL:=xX hR rfl u;refine⟨E,_,_,_,rfl,rfl,H,?_,hn,?_,tY hL,by rw[Eq (by rw[hc];decide)]⟩
  ·rw[J];intro e G
   rcases Ss.1 G with G|G
   ·exact c1 e G
   ·exact(d6 e G).2.1
  ·rw[J,O];exact(dQ _ _ _ _ I).trans d5
