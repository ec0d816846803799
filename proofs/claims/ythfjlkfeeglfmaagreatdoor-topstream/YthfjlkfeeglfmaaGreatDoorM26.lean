import Derived.Deep.RegionHeld3
import Derived.Deep.RegionWith
import Derived.WalkMore
import Derived.BigQuiet
import Derived.Deep.CutRange
import Derived.Deep.QuietTactic
import Derived.Test.YthfjlkfeeglfmaaGreatDoorM24
set_option linter.all false
set_option maxHeartbeats 2000000
namespace Go.Proofs.YthfjlkfeeglfmaaGreatDoor
open Go.Proofs.Tryz
open Go.RowKit
variable {W w W':World}{E:List Ev}{i n r j b k B:Nat}{t:Tv}{d:D}{K:List It}{code:Int}{vl ve:Value}
def j9 (c:Tv):Ev:=⟨4,0,c⟩
def bu:List Tv->List Tv
 |[]=>[]
 |t :: r=>if ia t then t :: bu r else[]
def lm:List Tv->List Tv
 |[]=>[]
 |t :: r=>if ia t then lm r else t :: r
def aD (l:List Tv):List Tv:=l.filter (λt=>!ia t)
def ps:List Tv->Nat->Nat
 |[],_=>0
 |t :: r,j=>if ia t then ps r j+1 else match j with|0=>0|j+1=>ps r j+1
def ql:List Tv->Nat->List Tv
 |[],_=>[]
 |t :: r,j=>if ia t then ql r j else match j with|0=>bu r|j+1=>ql r j
def yj {r:List Tv}(h:ia t=true):ps (t :: r) j=ps r j+1:=by cases j<;>simp[ps,h]
def qO {r:List Tv}(h:ia t=false):ps (t :: r) 0=0:=by simp[ps,h]
def yi {r:List Tv}(h:ia t=false):ps (t :: r) (j+1)=ps r j+1:=by simp[ps,h]
def Mg {r:List Tv}(h:ia t=true):ql (t :: r) j=ql r j:=by cases j<;>simp[ql,h]
def FU {r:List Tv}(h:ia t=false):ql (t :: r) 0=bu r:=by simp[ql,h]
def Mf {r:List Tv}(h:ia t=false):ql (t :: r) (j+1)=ql r j:=by simp[ql,h]
def rM {r:List Tv}(h:ia t=false):aD (t :: r)=t :: aD r:=by simp[aD,h]
def rN {r:List Tv}(h:ia t=true):aD (t :: r)=aD r:=by simp[aD,h]
def ie:∀r,aD (lm r)=aD r
 |[]=>rfl
 |t :: r=>by
  cases h:ia t with
  |true=>rw[rN h,lm,Or h];exact ie r
  |false=>rw[lm,Eq (by simp[h])]
def o8:∀r,bu (lm r)=[]
 |[]=>rfl
 |t :: r=>by
  cases h:ia t with
  |true=>rw[lm,Or h];exact o8 r
  |false=>rw[lm,Eq (by simp[h]),bu,Eq (by simp[h])]
def sP:∀r j,ql (lm r) j=ql r j
 |[],_=>rfl
 |t :: r,j=>by
  cases h:ia t with
  |true=>rw[lm,Or h,sP r j,Mg h]
  |false=>rw[lm,Eq (by simp[h])]
def yk:∀r j,ps r j=(bu r).length+ps (lm r) j
 |[],_=>rfl
 |t :: r,j=>by
  cases h:ia t with
  |true=>rw[lm,Or h,bu,Or h,yj h,yk r j];simp;omega
  |false=>rw[lm,Eq (by simp[h]),bu,Eq (by simp[h])];simp
def AJ:∀r,(lm r).length<=r.length
 |[]=>ge _
 |t :: r=>by
  cases h:ia t with
  |true=>rw[lm,Or h];have:=AJ r;simp;omega
  |false=>rw[lm,Eq (by simp[h])];exact ge _
def BD:∀r,bu r++lm r=r
 |[]=>rfl
 |t :: r=>by
  cases h:ia t with
  |true=>rw[lm,Or h,bu,Or h,R7,BD r]
  |false=>rw[lm,Eq (by simp[h]),bu,Eq (by simp[h])];rfl
def vE:∀(l:List Tv) (j:Nat),l[ps l j]?=(aD l)[j]?
 |[],j=>by simp[ps,aD]
 |t :: r,j=>by
  cases h:ia t with
  |true=>rw[rN h,yj h,Tq];exact vE r j
  |false=>
   rw[rM h];cases j with
   |zero=>rw[qO h];rfl
   |succ j=>rw[yi h,Tq,Tq];exact vE r j
def fd:∀(l:List Tv) (j:Nat),ps l j<=l.length
 |[],j=>by simp[ps]
 |t :: r,j=>by
  cases h:ia t with
  |true=>rw[yj h];have:=fd r j;simp;omega
  |false=>
   cases j with
   |zero=>rw[qO h];simp
   |succ j=>rw[yi h];have:=fd r j;simp;omega
def Al {l:List Tv}:ps l j<l.length↔j<(aD l).length:=by
 have h:=vE l j;constructor
 ·grind
 ·grind
def ny:∀(l:List Tv),ps l 0=(bu l).length
 |[]=>rfl
 |t :: r=>by
  cases h:ia t with
  |true=>rw[yj h,bu,Or h,ny r];simp
  |false=>rw[qO h,bu,Eq (by simp[h])];rfl
def sE:∀(l:List Tv) (j:Nat),j<(aD l).length->ps l (j+1)=ps l j+1+(ql l j).length/\ql l j=bu (l.drop (ps l j+1))
 |[],j,h=>by simp[aD]at h
 |t :: r,j,hj=>by
  cases h:ia t with
  |true=>
   rw[rN h]at hj;have:=sE r j hj;rw[yj h,yj h,Mg h,TM];exact⟨by omega,this.2⟩
  |false=>
   rw[rM h]at hj;cases j with
   |zero=>rw[yi h,qO h,FU h,ny];exact⟨by omega,rfl⟩
   |succ j=>
    have:=sE r j (by simpa using hj);rw[yi h,yi h,Mf h,TM];exact⟨by omega,this.2⟩
def AL:∀(r:List Tv) (k:Nat),(∀c,(bu r)[k]?=some c->r[k]?=some c/\ia c=true)/\(k=(bu r).length->∀c,r[k]?=some c->ia c=false)
 |[],k=>by simp[bu]
 |t :: r,k=>by
  cases h:ia t with
  |true=>
   rw[bu,Or h];cases k with
   |zero=>exact⟨λc e=>by simp at e;subst e;exact⟨rfl,h⟩,λe=>by simp at e⟩
   |succ k=>
    obtain⟨a,b⟩:=AL r k;exact⟨λc e=>by simpa using a c (by simpa using e),λe c u=>b (by simpa using e) c (by simpa using u)⟩
  |false=>
   rw[bu,Eq (by simp[h])];exact⟨λc e=>by simp at e,λe c u=>by simp at e;subst e;simp at u;subst u;exact h⟩
def iR {K:List It}{n:Int}(G:n≠0):beg K n=K/\jY n=n/\er n=[]:=by
 have u:(n==0)=false:=by simpa using G
 simp[beg,jY,er,u]
def ma {n:Int}(M:n≠0):∀(r:List Tv) (E:List Ev) (code:Int) (k:Nat),gM (.live K n) r E code k->∃H I,E=(bu r).map j9++H/\k=(bu r).length+I/\gM (.live K n) (lm r) H code I
 |[],E,code,k,h=>⟨E,k,rfl,by simp[bu],h⟩
 |t :: r,E,code,k,h=>by
  cases hc:ia t with
  |false=>rw[bu,Eq (by simp[hc]),lm,Eq (by simp[hc])];exact⟨E,k,rfl,by simp,h⟩
  |true=>
   rw[bu,Or hc,lm,Or hc];obtain⟨Q,S,Y⟩:=iR (K:=K) M
   rcases h.inv with⟨ev,st',J,G,rfl,rfl⟩|⟨ev,st',O,k2,J,u,rfl,rfl⟩
   ·cases J with
    |note hh=>exact absurd rfl G
    |no hh _ _=>unfold ia at hc;rw[hc]at hh;cases hh
    |deep hh _ _ _=>unfold ia at hc;rw[hc]at hh;cases hh
    |yes hh _ _ _=>exact absurd rfl G
   ·cases J with
    |yes hh _ _ _=>unfold ia at hc;rw[hc]at hh;cases hh
    |note hh=>
     rw[Q,S]at u;obtain⟨H,I,Z,e2,e3⟩:=ma M r O code k2 u;refine⟨H,I,?_,?_,e3⟩
     ·rw[Y,Z];rfl
     ·simp;omega
def gF {n:Int}(G:gJ (.live K n)) (u:IX K):n≠0:=by
 have H:=G.1.lv
 have I:1<=(bV K).length:=by
  rcases u with rfl|⟨X,rfl⟩
  ·decide
  ·rw[bH];simp[bV]
 omega
def ID (N:Nat->List Ev):∀(m:Nat) (r T:List Tv) (K:List It) (n:Int) (p:List (Int × Nat)) (s:Nat) (v E:List Ev) (code:Int) (k:Nat) (dz:D),r.length<=m->rH N T K p s v->nw K=true->IX K->gJ (.live K n)->bu r=[]->(∀j,N (T.length+j)=(ql r j).map j9)->gM (.live K n) r E code k->Rb (T++aD r) cd (dG 1 (tL N)) dz ->
  (code=0->dz.e=0/\dz.i=(T++aD r).length/\∃E0,E=E0++[⟨3,1,av⟩]/\dz.v=v++E0)/\(code≠0->(dz.e=code\/(code=120/\dz.e=0/\dz.i<(T++aD r).length))/\T.length<=dz.i/\k=ps r (dz.i-T.length)):=by
 intro m
 induction m with
 |zero=>
  intro r T K n p s v E code k dz hm Q hw u hg hl hN hA H;obtain rfl:r=[]:=R6 (by omega);obtain⟨hc,rfl⟩:=hA.end;have J:Rb T cd (dG 1 (tL N)) dz:=by simpa[aD]using H
  obtain⟨a,b,c⟩:=lJ Q u J;cases hc with
  |all hh=>exact⟨λ_=>⟨(b hh).1,by simp[aD,a],[],rfl,by rw[(b hh).2];simp⟩,λh=>absurd rfl h⟩
  | «open» hh=>exact⟨(λh=>by cases h),λ_=>⟨.inl (c hh),by omega,rfl⟩⟩
 |succ m ih=>
  intro r T K n p s v E code k dz hm Q hw u hg hl hN hA H;cases r with
  |nil=>
   obtain⟨hc,rfl⟩:=hA.end;have J:Rb T cd (dG 1 (tL N)) dz:=by simpa[aD]using H
   obtain⟨a,b,c⟩:=lJ Q u J;cases hc with
   |all hh=>exact⟨λ_=>⟨(b hh).1,by simp[aD,a],[],rfl,by rw[(b hh).2];simp⟩,λh=>absurd rfl h⟩
   | «open» hh=>exact⟨(λh=>by cases h),λ_=>⟨.inl (c hh),by omega,rfl⟩⟩
  |cons t r1=>
   have hc:ia t=false:=by
    cases h:ia t with
    |false=>rfl
    |true=>rw[bu,Or h]at hl;cases hl
   rw[rM hc]at H ⊢;have hn:=gF hg u;obtain⟨b1,b2,b3⟩:=iR (K:=K) hn;have p0:ps (t :: r1) 0=0:=qO hc;obtain⟨g1,g2,g3,g4,g5,gbot,gbn,gbe⟩:=df hg
   rcases hA.inv with⟨ev,st',hp,M,rfl,rfl⟩|⟨ev,st',E2,k2,hp,ae,rfl,rfl⟩
   ·refine⟨λh=>absurd h M,λ_=>?_⟩;cases hp with
    |note hh=>exact absurd rfl M
    |yes hh _ _ _=>exact absurd rfl M
    |no hh hR hk=>
     rw[b1]at hR;obtain⟨O,G⟩:=Nj Q hw hR H;refine⟨?_,by omega,by rw[O,Nat.sub_self,p0]⟩
     rcases G with G|G
     ·exact .inl G
     ·exact .inr ⟨rfl,G,by rw[O];simp⟩
    |deep hh hR hk hm2=>
     rename_i L m2 E1 k1 _
     obtain⟨c1,c2,c3,o,c4,c5,c6,c7⟩:=fM hR rfl g1 g2 g3;rw[b1]at hR;obtain⟨o2,e0,h5⟩:=(oL hR).2 _ _ _ rfl;have I:=h5 [];obtain⟨d1,d2,d3,d4⟩:=wX Q hw I;have Z:(nC o2 (p,s)).1.length=(bV L).length:=by have:=Sh List.length d2;simpa using this
     obtain⟨O,G⟩:=d4 (by omega) _ _ H;exact⟨.inl O,by omega,by rw[G,Nat.sub_self,p0]⟩
   ·have Y:=(dP hg hp).1;cases hp with
    |note hh=>unfold ia at hc;rw[hc]at hh;cases hh
    |yes hh hR hk hm2=>
     rename_i L m2 E1 k1
     obtain⟨c1,c2,c3,o,c4,c5,c6,c7⟩:=fM hR rfl g1 g2 g3;rw[b1]at hR;obtain⟨o2,e0,h5⟩:=(oL hR).2 _ _ _ rfl;rw[b3,SI]at e0;subst e0;have I:=h5 [];obtain⟨d1,d2,d3,d4⟩:=wX Q hw I;have Z:(nC E1 (p,s)).1.length=(bV L).length:=by have:=Sh List.length d2;simpa using this
     have ab:=d3 (by omega);have S:=sh hR rfl u;have ag:=gF Y S;obtain⟨E3,k3,O,G,aa⟩:=ma ag r1 E2 code k2 ae
     have ac:N T.length=(bu r1).map j9:=by
      have:=hN 0;rw[FU hc]at this;exact this
     have ad:∀j,N ((T++[t]).length+j)=(ql (lm r1) j).map j9:=λj=>by
      have:=hN (j+1);rw[Mf hc]at this;rw[sP,IO,SR,TW,Nat.add_comm 1 j];exact this
     have af:Rb ((T++[t])++aD (lm r1)) cd (dG 1 (tL N)) dz:=by rw[ie,RW];exact H
     have ai:=AJ r1;obtain⟨f1,f2⟩:=ih (lm r1) (T++[t]) L m2 _ _ _ E3 code k3 dz (by simp at hm;omega) ab d1 S Y (o8 r1) ad aa af;rw[ie,RW]at f1 f2;refine⟨λh=>?_,λh=>?_⟩
     ·obtain⟨a1,a2,E0,a3,a4⟩:=f1 h;refine⟨a1,a2,E1++⟨2,0,t⟩ :: (N T.length++E0),?_,?_⟩
      ·rw[O,a3,ac];simp
      ·rw[a4];simp
     ·obtain⟨a1,a2,a3⟩:=f2 h;rw[IO,SR]at a2 a3;refine⟨a1,by omega,?_⟩;obtain⟨q,hq⟩:∃q,dz.i-T.length=q+1:=⟨dz.i-(T.length+1),by omega⟩;have ah:dz.i-(T.length+1)=q:=by omega
      rw[hq,yi hc];rw[yk r1 q,G,a3,ah]
def mb {l:List Tv}(h:gM (.live [] 0) l E code k) (hl:l≠[]):∃J,gM (.live (cd++[.lv 1]) 1) l J code k/\(code=0->E=⟨1,1,av⟩ :: J):=by
 cases l with
 |nil=>exact absurd rfl hl
 |cons t r=>
  rcases h.inv with⟨ev,st',I,u,rfl,rfl⟩|⟨ev,st',M,Q,I,G,rfl,rfl⟩
  ·cases I with
   |note hh=>exact absurd rfl u
   |yes hh _ _ _=>exact absurd rfl u
   |no hh hR hk=>exact⟨[],.err (.no hh ((oL hR).1 rfl _) hk) u,λe=>absurd e u⟩
   |deep hh hR hk hm=>
    obtain⟨o,_,H⟩:=(oL hR).2 _ _ _ rfl;exact⟨[],.err (.deep hh (H _) hk hm) u,λe=>absurd e u⟩
  ·cases I with
   |note hh=>exact⟨[⟨4,0,t⟩]++M,.on (.note (K:=cd++[.lv 1]) (n:=1) hh) G,λ_=>rfl⟩
   |yes hh hR hk hm=>
    obtain⟨o,O,H⟩:=(oL hR).2 _ _ _ rfl;refine⟨(o++[⟨2,0,t⟩])++M,.on (.yes (K:=cd++[.lv 1]) (n:=1) hh (H []) hk hm) G,λ_=>?_⟩;rw[O];rfl
def pj:gJ (.live (cd++[.lv 1]) 1):=(dP dU (jE.note (t:=⟨7,⟨#[]⟩,0,0,0,0⟩) rfl)).1
def LT {l:List Tv}(h:gM (.live [] 0) l E code k) {dz:D}(S:Rb (aD l) cd (dG 1 (tL (λj=>(ql l j).map j9))) dz) :
  (code=0->dz.e=0/\dz.i=(aD l).length/\∃u,dz.v=⟨1,1,av⟩ :: u/\E=⟨1,1,av⟩ :: ((bu l).map j9++(u++[⟨3,1,av⟩])))/\(code≠0->(dz.e=code\/(code=120/\dz.e=0/\dz.i<(aD l).length))/\k=ps l dz.i):=by
 by_cases hl:l=[]
 ·subst hl;obtain⟨hc,rfl⟩:=h.end;obtain⟨a,b,c⟩:=lJ (rq _) iQ S;cases hc with
  |all hh=>simp at hh
  | «open» hh=>exact⟨(λh=>by cases h),λ_=>⟨.inl (c (by decide)),rfl⟩⟩
 ·obtain⟨Y,h1,h2⟩:=mb h hl;obtain⟨E2,k2,e1,e2,h3⟩:=ma (by decide) l Y code k h1;have J:Rb ([]++aD (lm l)) cd (dG 1 (tL (λj=>(ql l j).map j9))) dz:=by rw[ie];exact S
  obtain⟨O,Q⟩:=ID _ (lm l).length (lm l) [] _ 1 _ _ _ E2 code k2 dz (ge _) (rq _) Ko iQ pj (o8 l) (λj=>by rw[sP,List.length_nil,R3]) h3 J;rw[ie,SI]at O Q;refine⟨λG=>?_,λG=>?_⟩
  ·obtain⟨H,M,u,I,Z⟩:=O G;exact⟨H,M,u,Z,by rw[h2 G,e1,I]⟩
  ·obtain⟨H,M,I⟩:=Q G;refine⟨H,?_⟩;rw[e2,yk l,I];rfl
def eM {v:World}(h:Below b w v):∀m,Below b w (v.drewN m)
 |0=>h
 |m+1=>(eM h m).drew
def EA {M:Array Oper}{o:Oper}{a:Act}{K:Act->World->Prop}{Q:Exit->Act->World->Prop}{E:Prop}(G:o.guard=none) (s x:Operand)
  (ho:o.op=.call { callee:=.builtin .append,args:=#[s,x],argTypes:=#[100,100] }) (v:Value) (l:List Ev) (d:Ev) (hs:a.eval s=v) (hr:Re W v l)
  (g c:Nat) (hx:a.eval x=.slice (some (Tw g 0)) 1 c) (hg:W.heap[g]?=some (.cells #[.int .u8 d.k,.int .u8 d.n,.int .u8 d.d.k,.string d.d.t,Tu d.d.a,Tu d.d.l,Tu d.d.c,Tu d.d.f] 104 (0,0))) (hl:l.length<=1000000000)
  (h:∀q cap w',Re w' (.slice (some (Tw q 0)) (l.length+1) cap) (l++[d])->W.grownBy w' v.ownBlock->(v.ownBlock=some q\/q=W.heap.size)->K (a.put o.dst (.slice (some (Tw q 0)) (l.length+1) cap)) w') :
  if Region.wanted o (yielded M a.tmps)=true then Oper.wp Tryz.prog o a W K Q else E:=by
 obtain⟨i0,hi,H,I,J⟩:=Tf Tryz.info104;refine Uw W G s x 100 ho 0 104 i0 _ 8 64 underlying100 hi H I J rfl (by decide) v _ _ hs hr (Tw g 0) 1 c (xC [d]) hx (by rw[tE];rfl) ?_ (tD [d]) (by omega) (by unfold maxLen;omega) (by omega) (RU _) _ rfl ?_
 ·intro j u O;refine Ta hg j u ?_;have e:xC [d]=[.int .u8 d.k,.int .u8 d.n,.int .u8 d.d.k,.string d.d.t,Tu d.d.a,Tu d.d.l,Tu d.d.c,Tu d.d.f]:=by simp[xC,ap,Ev.cs]
  rw[e]at O
  simpa using O
 ·intro q cap w' S Y Z _;refine h q cap w' ?_ Y Z;unfold Re;rw[IO,tF];exact S
abbrev pg (g:Nat):Value:=.pointer (some ⟨g,0,none⟩)
def zh (W:World) (g:Nat) (vl:Value) (i n:Nat) (ve:Value):Prop:=W.heap[g]?=some (.cells #[vl,Tu (i:Int),Tu (n:Int),ve] 214 (0,0))
def zh.cells {W:World}{g i n:Nat}{vl ve:Value}(h:zh W g vl i n ve) :
  W.cell? (Tw g 0)=some vl/\W.cell? (Tw g 1)=some (Tu (i:Int))/\W.cell? (Tw g 2)=some (Tu (n:Int))/\W.cell? (Tw g 3)=some ve:=
 ⟨aa h rfl,aa h rfl,aa h rfl,aa h rfl⟩
def zh.frozen {W:World}{g i n:Nat}{vl ve:Value}(h:zh W g vl i n ve) (j:Nat):W.frozen? (Tw g j)=false:=aj h
def zh.kp {S:Nat->Prop}{W W':World}{g i n:Nat}{vl ve:Value}(h:zh W g vl i n ve) (G:Kp S W W') (u:¬S g):zh W' g vl i n ve:=G.blk h u
def zh.below {g:Nat}(h:zh W g vl i n ve) (u:Below W.heap.size W W'):zh W' g vl i n ve:=af h u
def zh.lt {g:Nat}(h:zh W g vl i n ve):g<W.heap.size:=ai h
structure Sx where
 w0:World
 g:Nat
 ao:Option Addr
 cap:Nat
 l:List Tv
structure dj (X:Sx) (i n:Nat) (E:List Ev) (W:World):Prop where
 bel:Below X.w0.heap.size X.w0 W
 lt:Lt X.w0 X.ao X.l
 g0:X.w0.heap.size<=X.g
 hl:X.l.length<=4194304
 ex:∃ve,zh W X.g (.slice X.ao X.l.length X.cap) i n ve/\Re W ve E/\(∀k,ve.ownBlock=some k->X.w0.heap.size<=k)
def dj.below {X:Sx}(h:dj X i n E W) (u:Below W.heap.size W W'):dj X i n E W':=by
 obtain⟨ve,a,b,c⟩:=h.ex;exact⟨h.bel.trans (u.mono h.bel.size),h.lt,h.g0,h.hl,ve,a.below u,b.below u,c⟩
def lP {S:Nat->Prop}(h:Below B w W) (u:Kp S W W') (H:∀k,S k->B<=k) (J:B<=W.heap.size):Below B w W':=
 ⟨u.os.trans h.os,u.tape.trans h.tape,u.output.trans h.output,PI h.size u.size,λk G=>(u.block k (by omega) (λI=>by have:=H k I;omega)).trans (h.block k G)⟩
def dj.tok {X:Sx}(h:dj X i n E W) {j:Nat}{t:Tv}(ht:X.l[j]?=some t):∃b u,X.ao=some (Tw b u)/\W.cell? ⟨b,u+j*6,none⟩=some (.int .u8 t.k)/\W.cell? ⟨b,u+j*6+1,none⟩=some (.string t.t)/\W.cell? ⟨b,u+j*6+2,none⟩=some (Tu t.a)/\W.cell? ⟨b,u+j*6+3,none⟩=some (Tu t.l)/\W.cell? ⟨b,u+j*6+4,none⟩=some (Tu t.c)/\W.cell? ⟨b,u+j*6+5,none⟩=some (Tu t.f)/\b<W.heap.size:=by
 obtain⟨b,u,e,c⟩:=(h.lt.below h.bel) j t ht;exact⟨b,u,e,c.1,c.2.1,c.2.2.1,c.2.2.2.1,c.2.2.2.2.1,c.2.2.2.2.2,RV _ _ c.1⟩
def ME (X:Sx) (W W':World):Prop:=∀b cs T f,W.heap[b]?=some (.cells cs T f)->T≠104->b≠X.g->W'.heap[b]?=some (.cells cs T f)
def Es {X:Sx}{E':List Ev}{W1 u:World}(h:dj X i n E W) {ve:Value}(hs:zh W X.g (.slice X.ao X.l.length X.cap) i n ve) (hE:Re W ve E) (hv:∀k,ve.ownBlock=some k->X.w0.heap.size<=k) (H:Below W.heap.size W W1) {q cap n':Nat}(hr:Re u (.slice (some (Tw q 0)) n' cap) E') (M:W1.grownBy u ve.ownBlock) (I:ve.ownBlock=some q\/q=W1.heap.size) :
  (u.cell? ⟨X.g,3,none⟩=some ve/\u.frozen? ⟨X.g,3,none⟩=false)/\dj X i n E' (u.setCell ⟨X.g,3,none⟩ (.slice (some (Tw q 0)) n' cap))/\ME X W (u.setCell ⟨X.g,3,none⟩ (.slice (some (Tw q 0)) n' cap)):=by
 have h1:=hs.below H;have Z:¬some X.g=ve.ownBlock:=λe=>(hE.below H).ne h1 (by decide) X.g e.symm rfl
 have J:zh u X.g (.slice X.ao X.l.length X.cap) i n ve:=h1.kp (Kp.of_grown M) Z;have G:=h.bel.trans (H.mono h.bel.size);refine⟨⟨aa J rfl,J.frozen 3⟩,⟨?_,h.lt,h.g0,h.hl,.slice (some (Tw q 0)) n' cap,ag J 3 _,hr.kp (Kp.set _ _ _ _) (hr.ne J (by decide)),?_⟩,λb cs T f Y hT Q=>?_⟩
 ·have O:=(Kp.of_grown M).sub (S:=λk=>X.w0.heap.size<=k) (λk e=>hv k e.symm);have b2:=lP G O (λk e=>e) G.size;exact lP b2 (Kp.set _ _ _ _) (λk e=>by rw[e];exact h.g0) b2.size
 ·intro k e;simp only[Value.ownBlock,St]at e;subst e
  rcases I with I|I
  ·exact hv _ I
  ·rw[I];exact G.size
 ·have k1:=af Y H;have O:=(Kp.of_grown M).blk k1 (λe=>(hE.below H).ne k1 hT b e.symm rfl);exact(Kp.set u X.g 3 _).blk O Q
def iY {X:Sx}(h:dj X i n E W) (d:Ev) (hl:E.length<=1000000000) :
  Sa 198 #[pg X.g,d.v] W λr w'=>Uk r (.tuple #[])/\dj X i n (E++[d]) w'/\ME X W w':=by
 obtain⟨ve,J,Y,hv⟩:=h.ex;obtain⟨p,cap,rfl,_⟩:=Y.shape;have HW:=aW λV (u:Below W.heap.size W V)=>Y.below u
 have HT:Hid (∀W1 H q I,Below W.heap.size W W1->Re H (.slice (some (Tw q 0)) (E.length+1) I) (E++[d])->W1.grownBy H (Value.slice p E.length cap).ownBlock->((Value.slice p E.length cap).ownBlock=some q\/q=W1.heap.size)->(H.cell? ⟨X.g,3,none⟩=some (.slice p E.length cap)/\H.frozen? ⟨X.g,3,none⟩=false)/\dj X i n (E++[d]) (H.setCell ⟨X.g,3,none⟩ (.slice (some (Tw q 0)) (E.length+1) I))/\ME X W (H.setCell ⟨X.g,3,none⟩ (.slice (some (Tw q 0)) (E.length+1) I))):=
  λW1 H q I u h1 h2 h3=>Es h J Y hv u h1 h2 h3
 obtain⟨c0,c1,c2,c3⟩:=J.cells;have hf:=J.frozen 3;have Z:=J.lt;clear h Y J hv;dsimp only[Ev.v];obtain⟨⟨k0,n0,⟨k1,t,a,l,cc,f⟩⟩,hd⟩:∃x,d=x:=⟨_,rfl⟩;subst hd;go_enter func198,ntmps198;(go_wp2_with fail);obtain⟨W1,S⟩:=ea (W.alloc (.cells #[.int .u8 k0,.int .u8 n0,.int .u8 k1,.string t,Tu a,Tu l,Tu cc,Tu f] 104));have u:Below W.heap.size W W1:=by rw[<-S];exact(gt _ _).alloc (ge _) _
 have G:W1.heap[W.heap.size]?=some (.cells #[.int .u8 k0,.int .u8 n0,.int .u8 k1,.string t,Tu a,Tu l,Tu cc,Tu f] 104):=by rw[<-S];exact ak _ _
 rw[S];clear S;have m0:W1.cell? ⟨W.heap.size,0,none⟩=_:=aa G rfl;have m1:W1.cell? ⟨W.heap.size,1,none⟩=_:=aa G rfl;have m2:W1.cell? ⟨W.heap.size,2,none⟩=_:=aa G rfl;have m3:W1.cell? ⟨W.heap.size,3,none⟩=_:=aa G rfl;have m4:W1.cell? ⟨W.heap.size,4,none⟩=_:=aa G rfl;have m5:W1.cell? ⟨W.heap.size,5,none⟩=_:=aa G rfl;have m6:W1.cell? ⟨W.heap.size,6,none⟩=_:=aa G rfl;have m7:W1.cell? ⟨W.heap.size,7,none⟩=_:=aa G rfl;have d4:W1.cell? ⟨X.g,3,none⟩=some (.slice p E.length cap):=(u.cell Z).trans c3;have HB:Hid (∀o,Below W.heap.size W (W1.drew.alloc o)):=λo=>(u.drew).alloc u.size _
 have ab:X.g<W1.heap.size:=R4 Z u.size;clear u G c0 c1 c2 c3 hf Z
 go_region_law (refine EA (by rfl) _ _ (by rfl) (.slice p E.length cap) E ⟨k0,n0,⟨k1,t,a,l,cc,f⟩⟩ (by rfl) (HW.out _ (HB.out _)) W1.heap.size 1 (by rfl) (ak W1.drew _) hl ?_;intro q I H Q M O;obtain⟨⟨x1,x2⟩,x3⟩:=HT.out _ H q I (HB.out _) Q M O;have HX:=aW x3;clear x3 Q M O)
 all_goals(
  (go_wp2_with fail);go_end0;exact⟨rfl,HX.out⟩)
def jI (w:World) (b:Nat) (t:Tv):World:=((((((w.setCell ⟨b,0,none⟩ (.int .u8 t.k)).setCell ⟨b,1,none⟩ (.string t.t)).setCell ⟨b,2,none⟩ (Tu t.a)).setCell ⟨b,3,none⟩ (Tu t.l)).setCell ⟨b,4,none⟩ (Tu t.c)).setCell ⟨b,5,none⟩ (Tu t.f))
abbrev jD (t:Tv):Obj:=.cells #[.int .u8 t.k,.string t.t,Tu t.a,Tu t.l,Tu t.c,Tu t.f] 49
def EN {u:Tv}(t:Tv) (h:w.heap[b]?=some (jD u)):(jI w b t).heap[b]?=some (jD t):=ag (ag (ag (ag (ag (ag h 0 _) 1 _) 2 _) 3 _) 4 _) 5 _
def ij {w0:World}(t:Tv) (h:Below B w0 w) (u:B<=b):Below B w0 (jI w b t):=(((((h.setCell u _).setCell u _).setCell u _).setCell u _).setCell u _).setCell u _
def oy (h:W.heap[b]?=some (jD t)):W.cell? (Tw b 0)=some (.int .u8 t.k)/\W.cell? (Tw b 1)=some (.string t.t)/\W.cell? (Tw b 2)=some (Tu t.a)/\W.cell? (Tw b 3)=some (Tu t.l)/\W.cell? (Tw b 4)=some (Tu t.c)/\W.cell? (Tw b 5)=some (Tu t.f):=
 ⟨aa h rfl,aa h rfl,aa h rfl,aa h rfl,aa h rfl,aa h rfl⟩
def nx (X:Sx) (i:Nat):Tv:=X.l[i]?.getD av
def ec {X:Sx}(h:dj X i n E W) (Q:i<=X.l.length) :
  Sa 229 #[pg X.g] W λe w'=>Uk e (nx X i).v/\Below W.heap.size W w':=by
 obtain⟨ve,H,J,S⟩:=h.ex;obtain⟨c0,c1,c2,c3⟩:=H.cells;have O:=H.lt;have hl:=h.hl
 by_cases I:i<X.l.length
 ·obtain⟨t,ht⟩:∃t,X.l[i]?=some t:=⟨_,Pi I⟩;obtain⟨b,off,e0,x0,x1,x2,x3,x4,x5,xl⟩:=h.tok ht;have u:nx X i=t:=by simp[nx,ht]
  rw[u];rw[e0]at c0;have M:((i:Int)==(X.l.length:Int))=false:=by simp;omega
  have Y:(0:Int)<=i:=by omega
  have Z:(i:Int)<X.l.length:=by omega
  have G:Hid (∀m,Se W (jI ((W.alloc (jD av)).drewN m) W.heap.size t)):=λm=>ij t (eM ((gt _ _).alloc (ge _) _) m) (ge _)
  clear h H J u ht e0;dsimp only[Tv.v];go_enter func229,ntmps229;(go_wp2_with fail)
  go_quiet (fail)
  (go_wp2_with fail);go_region
  all_goals(
   (go_wp2_with fail);refine R0 (v:=.agg #[.int .u8 t.k,.string t.t,Tu t.a,Tu t.l,Tu t.c,Tu t.f]) (by simp[results,Tryz.f229,go_sem]) rfl ?_;exact⟨rfl,G.out _⟩)
 ·obtain rfl:i=X.l.length:=by omega
  have u:nx X X.l.length=av:=by simp[nx]
  rw[u];have M:((X.l.length:Int)==(X.l.length:Int))=true:=by simp
  have G:Hid (∀m,Se W (jI ((W.alloc (jD av)).drewN m) W.heap.size av)):=λm=>ij av (eM ((gt _ _).alloc (ge _) _) m) (ge _)
  clear h H J u;dsimp only[Tv.v,av]at G ⊢;go_enter func229,ntmps229;(go_wp2_with fail)
  go_quiet (fail)
  (go_wp2_with fail);refine R0 (v:=.agg #[.int .u8 0,.string ⟨#[]⟩,Tu 0,Tu 0,Tu 0,Tu 0]) (by simp[results,Tryz.f229,go_sem]) rfl ?_;exact⟨rfl,G.out _⟩
def kt (k:Int) (t:Tv):ByteArray:=if t.k==k then t.t else⟨#[]⟩
def oD {X:Sx}(h:dj X i n E W) (S:i<=X.l.length) (k:Int) :
  Sa 279 #[pg X.g,.int .u8 k] W λe w'=>Uk e (.string (kt k (nx X i)))/\Se W w':=by
 have H:=aW λV (J:Se W V)=>ec (h.below J) S
 clear h;generalize nx X i=t at *;have Q:Hid (∀I,Se W I->Se W (I.alloc (jD t))):=λI J=>J.alloc J.size _
 by_cases M:(t.k==k)=true
 ·have G:kt k t=t.t:=by simp[kt,M]
  rw[G];dsimp only[Tv.v]at H;go_enter func279,ntmps279
  go_wp2_with(go_at_call 229;refine(H.out _ (gt _ _)).mono ?_;rintro e I⟨rfl,u⟩)
  go_ret;exact⟨rfl,Q.out _ u⟩
 ·have O:(t.k==k)=false:=by simpa using M
  have G:kt k t=⟨#[]⟩:=by simp[kt,O]
  rw[G];clear M;dsimp only[Tv.v]at H;go_enter func279,ntmps279
  go_wp2_with(go_at_call 229;refine(H.out _ (gt _ _)).mono ?_;rintro e I⟨rfl,u⟩)
  go_ret;exact⟨rfl,Q.out _ u⟩
def kl {X:Sx}(h:dj X i n E W) (G:i<=X.l.length) :
  Sa 264 #[pg X.g] W λe w'=>Uk e (.string (kt 2 (nx X i)))/\Se W w':=by
 have H:=aW (oD h G 2);clear h;go_enter func264,ntmps264
 go_wp2_with(go_at_call 279;refine H.out.mono ?_;rintro e I⟨rfl,u⟩)
 go_ret;exact⟨rfl,u⟩
def lG {X:Sx}(h:dj X i n E W) (G:i<=X.l.length) :
  Sa 265 #[pg X.g] W λe w'=>Uk e (.string (kt 6 (nx X i)))/\Se W w':=by
 have H:=aW (oD h G 6);clear h;go_enter func265,ntmps265
 go_wp2_with(go_at_call 279;refine H.out.mono ?_;rintro e I⟨rfl,u⟩)
 go_ret;exact⟨rfl,u⟩
abbrev stop (c:Int) (i:Nat):List PanicEntry:=[{ v:=.iface 210 (.agg #[Tu c,Tu (i:Int)]),recovered:=false }]
def oO {X:Sx}(h:dj X i n E W) :
  Sa 204 #[pg X.g] W λe w'=>e=.panicked (stop (if i=X.l.length then 121 else 120) i)/\Se W w':=by
 obtain⟨ve,G,I,O⟩:=h.ex;obtain⟨c0,c1,c2,c3⟩:=G.cells;have M:=G.lt;have hl:=h.hl;have H:Hid (∀m,Se W (W.drewN m)):=λm=>eM (gt _ _) m
 by_cases u:i=X.l.length
 ·rw[Or u];have J:((i:Int)==(X.l.length:Int))=true:=by simp[u]
  clear h G I u;go_enter func204,ntmps204;(go_wp2_with fail)
  go_quiet (fail)
  (go_wp2_with fail);exact⟨rfl,rfl,H.out _⟩
 ·rw[Eq u];have J:((i:Int)==(X.l.length:Int))=false:=by simp;omega
  clear h G I u;go_enter func204,ntmps204;(go_wp2_with fail)
  go_quiet (fail)
  (go_wp2_with fail);exact⟨rfl,rfl,H.out _⟩
def dj.step {X:Sx}{i n:Nat}{E:List Ev}{W:World}(h:dj X i n E W) (j:Nat):W.cell? ⟨X.g,1,none⟩=some (Tu (i:Int))/\W.frozen? ⟨X.g,1,none⟩=false/\X.g<W.heap.size/\dj X j n E (W.setCell ⟨X.g,1,none⟩ (Tu (j:Int))):=by
 obtain⟨ve,a,b,c⟩:=h.ex;refine⟨a.cells.2.1,a.frozen 1,a.lt,lP h.bel (Kp.set _ _ _ _) (λk e=>by rw[e];exact h.g0) h.bel.size,h.lt,h.g0,h.hl,ve,ag a 1 _,b.kp (Kp.set _ _ _ _) (b.ne a (by decide)),c⟩
def dj.deep {X:Sx}(h:dj X i n E W) (m:Nat):W.cell? ⟨X.g,2,none⟩=some (Tu (n:Int))/\W.frozen? ⟨X.g,2,none⟩=false/\X.g<W.heap.size/\dj X i m E (W.setCell ⟨X.g,2,none⟩ (Tu (m:Int))):=by
 obtain⟨ve,a,b,c⟩:=h.ex;refine⟨a.cells.2.2.1,a.frozen 2,a.lt,lP h.bel (Kp.set _ _ _ _) (λk e=>by rw[e];exact h.g0) h.bel.size,h.lt,h.g0,h.hl,ve,ag a 2 _,b.kp (Kp.set _ _ _ _) (b.ne a (by decide)),c⟩
structure Qh (X:Sx) (i n:Nat) (E:List Ev) (k b:Nat) (W:World):Prop where
 sv:dj X (i+k) n (E++((bu (X.l.drop i)).take k).map j9) W
 tk:W.heap[b]?=some (jD (nx X (i+k)))
 le:k<=(bu (X.l.drop i)).length
def KH (r:List Tv):(bu r).length<=r.length:=by
 have:=Sh List.length (BD r);rw[IO]at this;omega
def Qh.on {X:Sx}{i n:Nat}{E:List Ev}{k b:Nat}{W:World}(h:Qh X i n E k b W):(k<(bu (X.l.drop i)).length->∃c,(bu (X.l.drop i))[k]?=some c/\nx X (i+k)=c/\ia c=true)/\(k=(bu (X.l.drop i)).length->ia (nx X (i+k))=false):=by
 obtain⟨G,H⟩:=AL (X.l.drop i) k;constructor
 ·intro u;obtain⟨c,hc⟩:∃c,(bu (X.l.drop i))[k]?=some c:=⟨_,Pi u⟩;obtain⟨b1,b2⟩:=G c hc;rw[Sl]at b1;exact⟨c,hc,by simp[nx,b1],b2⟩
 ·intro u;unfold nx;cases hc:X.l[i+k]? with
  |none=>rfl
  |some c=>exact H u c (by rw[Sl];exact hc)
def El {l:List Tv}{c:Tv}(h:l[k]?=some c):(l.take (k+1)).map j9=(l.take k).map j9++[j9 c]:=by
 rw[T2,h];simp
def Qn (g:Nat) (w:World):Nat:=match w.cell? ⟨g,1,none⟩with|some (.int _ z)=>z.toNat|_=>0
def pS {g:Nat}{z:Int}(h:w.cell? (Tw g 1)=some (Tu z)):Qn g w=z.toNat:=by unfold Qn;rw[h]
def Ia (t:Tv):ia t=(t.k==7||t.k==8):=rfl
def kU {X:Sx}(h:dj X i n E W) (hi:i<=X.l.length) (hl:E.length+X.l.length<=1000000000) :
  Sa 199 #[pg X.g] W λe w'=>Uk e (.tuple #[])/\dj X (i+(bu (X.l.drop i)).length) n (E++(bu (X.l.drop i)).map j9) w':=by
 have au:i+(bu (X.l.drop i)).length<=X.l.length:=by
  have:=KH (X.l.drop i);rw[Sj]at this;omega
 have av:=h.hl;have H1:=aW (ec h hi);have H0:Hid (∀w1,Below W.heap.size W w1->Qh X i n E 0 w1.heap.size (w1.alloc (jD (nx X i)))):=λw1 hb=>⟨by simpa using(h.below hb).below ((gt _ _).alloc (ge _) _),ak _ _,RU _⟩
 clear h;obtain⟨m,hm⟩:=ea ((bu (X.l.drop i)).length);obtain⟨t0,ht0⟩:∃t,nx X i=t:=⟨_,rfl⟩;rw[ht0]at H1 H0;dsimp only[Tv.v]at H1;go_enter func199,ntmps199
 go_wp2_with(go_at_call 229;refine H1.out.mono ?_;rintro e w1⟨rfl,ab⟩;have HC:=show Hid _ from H0.out _ ab;clear ab)
 go_loopw [2] (λp wr=>∃k b,p=.pointer (some (Tw b 0))/\Hid (Qh X i n E k b wr)) (λp wr=>m+1-(Qn X.g wr-i))
 case atStart=>exact⟨0,_,rfl,HC.out⟩
 case round=>
  obtain⟨k,b,rfl,HI⟩:=hrel;obtain⟨c0,c1,c2,c3,c4,c5⟩:=oy HI.out.tk;have aq:=ai HI.out.tk;obtain⟨o1,o2⟩:=HI.out.on;have ar:=HI.out.le;obtain⟨ve,I,_,_⟩:=HI.out.sv.ex;have g1:=I.cells.2.1;clear I
  by_cases hk:k<(bu (X.l.drop i)).length
  ·obtain⟨c,e1,e2,e3⟩:=o1 hk;rw[e2]at c0 c1 c2 c3 c4 c5;have HT:Hid (Sa 198 #[pg X.g,(⟨4,0,c⟩:Ev).v] wr λr w'=>Uk r (.tuple #[])/\dj X (i+k) n ((E++((bu (X.l.drop i)).take k).map j9)++[⟨4,0,c⟩]) w'/\ME X wr w'):=iY HI.out.sv _ (by simp;omega)
   have HN:Hid (∀w2,dj X (i+k) n ((E++((bu (X.l.drop i)).take k).map j9)++[⟨4,0,c⟩]) w2->ME X wr w2->(w2.cell? ⟨X.g,1,none⟩=some (Tu ((i:Int)+k))/\w2.frozen? ⟨X.g,1,none⟩=false/\X.g<w2.heap.size)/\∃u,w2.setCell ⟨X.g,1,none⟩ (Tu ((i:Int)+k+1))=u/\(u.cell? (Tw b 0)=some (.int .u8 c.k)/\u.cell? (Tw b 1)=some (.string c.t)/\u.cell? (Tw b 2)=some (Tu c.a)/\u.cell? (Tw b 3)=some (Tu c.l)/\u.cell? (Tw b 4)=some (Tu c.c)/\u.cell? (Tw b 5)=some (Tu c.f)/\b<u.heap.size)/\Hid (dj X (i+(k+1)) n (E++((bu (X.l.drop i)).take (k+1)).map j9) u)):=λw2 O M=>by
    have ac:b≠X.g:=λe=>by
     have h1:=HI.out.tk;obtain⟨ve,I,_,_⟩:=HI.out.sv.ex;rw[e,I]at h1;cases h1
    have h3:=M b _ _ _ HI.out.tk (by decide) ac;rw[e2]at h3;have h4:=(Kp.set w2 X.g 1 (Tu ((i:Int)+k+1))).blk h3 ac;obtain⟨S,Y,Z,y3,y4,y5⟩:=oy h4;obtain⟨z0,z1,z2,z3⟩:=O.step (i+(k+1));refine⟨⟨by rw[z0];simp,z1,z2⟩,_,rfl,⟨S,Y,Z,y3,y4,y5,ai h4⟩,?_⟩;have e5:((i:Int)+k+1)=((i+(k+1):Nat):Int):=by omega
    rw[e5,El e1,<-RW];exact z3
   have HF:Hid (∀u G,dj X (i+(k+1)) n (E++((bu (X.l.drop i)).take (k+1)).map j9) u->Below (u.alloc (jD c)).heap.size (u.alloc (jD c)) G->(G.cell? ⟨u.heap.size,0,none⟩=some (.int .u8 c.k)/\G.cell? ⟨u.heap.size,1,none⟩=some (.string c.t)/\G.cell? ⟨u.heap.size,2,none⟩=some (Tu c.a)/\G.cell? ⟨u.heap.size,3,none⟩=some (Tu c.l)/\G.cell? ⟨u.heap.size,4,none⟩=some (Tu c.c)/\G.cell? ⟨u.heap.size,5,none⟩=some (Tu c.f)/\(∀j,G.frozen? ⟨u.heap.size,j,none⟩=false)/\u.heap.size<G.heap.size)/\Qh X i n E (k+1) u.heap.size (jI G u.heap.size (nx X (i+(k+1))))/\(jI G u.heap.size (nx X (i+(k+1)))).cell? ⟨X.g,1,none⟩=some (Tu ((i:Int)+k+1))):=λu G Q H=>by
    have h0:=af (ak u (jD c)) H;obtain⟨S,Y,Z,y3,y4,y5⟩:=oy h0;have b0:Below u.heap.size u (u.alloc (jD c)):=(gt _ _).alloc (ge _) _;have b1:Below u.heap.size u G:=b0.trans (H.mono b0.size);have s5:=Q.below (ij (nx X (i+(k+1))) b1 (ge _));refine⟨⟨S,Y,Z,y3,y4,y5,λj=>aj h0,ai h0⟩,⟨s5,EN _ h0,hk⟩,?_⟩;obtain⟨ve,I,_,_⟩:=s5.ex;rw[I.cells.2.1];simp;omega
   have HX:Hid (∀V,dj X (i+(k+1)) n (E++((bu (X.l.drop i)).take (k+1)).map j9) V->Sa 229 #[pg X.g] (V.alloc (jD c)) λe w'=>Uk e (nx X (i+(k+1))).v/\Below (V.alloc (jD c)).heap.size (V.alloc (jD c)) w'):=λV hV=>ec (hV.below ((gt _ _).alloc (ge _) _)) (by omega)
   obtain⟨t2,ae⟩:∃t,nx X (i+(k+1))=t:=⟨_,rfl⟩;rw[ae]at HF HX;dsimp only[Tv.v]at HX;clear o1 o2;dsimp only[Ev.v]at HT
   cases h7:(c.k==7)with
   |true=>
    go_wp2_with(go_at_call 198;refine HT.out.mono ?_;rintro r w2⟨rfl,O,M⟩;obtain⟨⟨z0,z1,z2⟩,u,e4,⟨S,Y,Z,y3,y4,y5,yl⟩,Q⟩:=HN.out w2 O M;clear O M)
    refine(HX.out _ Q.out).mono ?_;rintro e G⟨rfl,H⟩;obtain⟨⟨x0,x1,x2,x3,x4,x5,xf,xl⟩,p1,p2⟩:=HF.out u G Q.out H;have HP:=aW p1;have HM:=aW p2;have ag:=xf 0;have ah:=xf 1;have al:=xf 2;have am:=xf 3;have an:=xf 4;have ap:=xf 5;clear p1 p2 xf H z0 z1 z2 S Y Z y3 y4 y5 yl e4 c0 c1 c2 c3 c4 c5;generalize u.heap.size=q at *;(go_wp2_with fail);obtain⟨w6,J⟩:=ea (jI G q t2);rw[J]at HP HM;unfold jI at J;rw[J];refine⟨⟨k+1,q,rfl,HP.out⟩,?_⟩;rw[pS HM.out,pS g1];simp;omega
   |false=>
    have h8:(c.k==8)=true:=by rw[Ia,h7]at e3;simpa using e3
    go_wp2_with(go_at_call 198;refine HT.out.mono ?_;rintro r w2⟨rfl,O,M⟩;obtain⟨⟨z0,z1,z2⟩,u,e4,⟨S,Y,Z,y3,y4,y5,yl⟩,Q⟩:=HN.out w2 O M;clear O M)
    refine(HX.out _ Q.out).mono ?_;rintro e G⟨rfl,H⟩;obtain⟨⟨x0,x1,x2,x3,x4,x5,xf,xl⟩,p1,p2⟩:=HF.out u G Q.out H;have HP:=aW p1;have HM:=aW p2;have ag:=xf 0;have ah:=xf 1;have al:=xf 2;have am:=xf 3;have an:=xf 4;have ap:=xf 5;clear p1 p2 xf H z0 z1 z2 S Y Z y3 y4 y5 yl e4 c0 c1 c2 c3 c4 c5;generalize u.heap.size=q at *;(go_wp2_with fail);obtain⟨w6,J⟩:=ea (jI G q t2);rw[J]at HP HM;unfold jI at J;rw[J];refine⟨⟨k+1,q,rfl,HP.out⟩,?_⟩;rw[pS HM.out,pS g1];simp;omega
  ·have aa:k=(bu (X.l.drop i)).length:=by omega
   have hc:=o2 aa;obtain⟨c,ad⟩:=ea (nx X (i+k));rw[ad]at c0 c1 c2 c3 c4 c5 hc
   have HZ:Hid (dj X (i+(bu (X.l.drop i)).length) n (E++(bu (X.l.drop i)).map j9) wr):=by
    have:=HI.out.sv;rw[aa,Te]at this;exact this
   rw[Ia]at hc;have h7:(c.k==7)=false:=by cases h:(c.k==7)<;>simp_all
   have h8:(c.k==8)=false:=by cases h:(c.k==8)<;>simp_all
   clear o1 o2 hc aa;(go_wp2_with fail);go_end0;exact⟨rfl,HZ.out⟩
def B3 {X:Sx}(h:dj X i n E W) {t:Tv}(ht:X.l[i]?=some t) (hn:n<=1000) (hl:E.length+1+X.l.length<=1000000000) :
  Sa 277 #[pg X.g] W λe w'=>Uk e (.tuple #[])/\dj X (i+1+(bu (X.l.drop (i+1))).length) n (E++⟨2,0,t⟩ :: (bu (X.l.drop (i+1))).map j9) w':=by
 have G:i<X.l.length:=(RY.1 ht).1;obtain⟨ve,M,hE,hv⟩:=h.ex;obtain⟨c0,c1,c2,c3⟩:=M.cells;have aa:=M.lt;have ab:=h.hl;obtain⟨b,off,e0,x0,x1,x2,x3,x4,x5,xl⟩:=h.tok ht;rw[e0]at c0;have q1:¬((n:Int)>1000):=by omega
 have q2:(0:Int)<=i:=by omega
 have q3:(i:Int)<X.l.length:=by omega
 have J:Hid (∀V,Se W V->Sa 198 #[pg X.g,(⟨2,0,t⟩:Ev).v] V λr w'=>Uk r (.tuple #[])/\dj X i n (E++[⟨2,0,t⟩]) w'/\ME X V w'):=λV hb=>iY (h.below hb) _ (by omega)
 have HN:Hid (∀w2,dj X i n (E++[⟨2,0,t⟩]) w2->(w2.cell? ⟨X.g,1,none⟩=some (Tu (i:Int))/\w2.frozen? ⟨X.g,1,none⟩=false/\X.g<w2.heap.size)/\∃u,w2.setCell ⟨X.g,1,none⟩ (Tu ((i:Int)+1))=u/\Hid (dj X (i+1) n (E++[⟨2,0,t⟩]) u)):=λw2 H=>by
  obtain⟨Q,S,Y,z3⟩:=H.step (i+1);exact⟨⟨Q,S,Y⟩,_,rfl,by show dj _ _ _ _ _;rw[show((i:Int)+1)=((i+1:Nat):Int)by omega];exact z3⟩
 have HC:=aW λu (h3:dj X (i+1) n (E++[⟨2,0,t⟩]) u)=>kU h3 G (by simp;omega)
 have HE:Hid (E++⟨2,0,t⟩ :: (bu (X.l.drop (i+1))).map j9=E++[⟨2,0,t⟩]++(bu (X.l.drop (i+1))).map j9):=by show _=_;simp
 have HB:Hid (∀m,Se W (W.drewN m)):=λm=>eM (gt _ _) m
 rw[HE.out];clear h M hE hv ht G e0;dsimp only[Ev.v]at J;generalize X.ao=ao at *;go_enter func277,ntmps277;(go_wp2_with fail)
 go_cut [25]from 13 to 25 (λ_ wx=>Hid (dj X i n (E++[⟨2,0,t⟩]) wx))
 case first=>
  go_region_with (go_at_call 198;refine(J.out _ (HB.out _)).mono ?_;rintro r w2⟨rfl,H,f2⟩;have I:=aW H;clear H f2)
  all_goals(
   go_wp2_with fail
   go_meet
   exact I)
 case rest=>
  have I:=hcut;clear hcut c0 c1 c2 c3 x0 x1 x2 x3 x4 x5 J;obtain⟨⟨Q,S,Y⟩,u,e3,Z⟩:=HN.out _ I.out
  go_wp2_with(go_at_call 199;refine(HC.out _ Z.out).mono ?_;rintro r w4⟨rfl,O⟩;have H4:=aW O;clear O)
  go_end0;exact⟨rfl,H4.out⟩
def Cg {X:Sx}(h:dj X i n E W) (J:1000<n) :
  Sa 277 #[pg X.g] W λe w'=>e=.panicked (stop 122 i)/\Se W w':=by
 obtain⟨ve,u,H,M⟩:=h.ex;obtain⟨c0,c1,c2,c3⟩:=u.cells;have I:=u.lt;have O:((n:Int)>1000):=by omega
 have G:Hid (∀m,Se W (W.drewN m)):=λm=>eM (gt _ _) m
 clear h u H;go_enter func277,ntmps277;(go_wp2_with fail);exact⟨rfl,rfl,G.out 0⟩
def Ls (W:World) (ao:Option Addr) (l:List ByteArray):Prop:=∀j s,l[j]?=some s->∃b off,ao=some ⟨b,off,none⟩/\W.cell? ⟨b,off+j,none⟩=some (.string s)
def Ls.kp {S:Nat->Prop}{w w':World}{ao:Option Addr}{l:List ByteArray}(h:Ls w ao l) (M:Kp S w w') (I:∀a,ao=some a->¬S a.block):Ls w' ao l:=by
 intro j a J;obtain⟨b,G,H,c0⟩:=h j a J;have u:=RV _ _ c0;have e:w'.heap[b]?=w.heap[b]?:=M.block b u (I _ H);exact⟨b,G,H,(RX (a:=(Tw b _)) e).trans c0⟩
def Ls.below {w':World}{ao:Option Addr}{l:List ByteArray}(h:Ls w ao l) (u:Below w.heap.size w w'):Ls w' ao l:=h.kp (Kp.of_below (S:=λ_=>False) u) (λ_ _ h=>h)
def Gy (l:List ByteArray) (s x:ByteArray) (k:Nat) (u:l[k]?=some x) (h:ll (l.take k) s=false):ll (l.take (k+1)) s=(s.toList==x.toList):=by
 rw[Ii];unfold ll at h ⊢;rw[T2,u,List.any_append,h];simp
def Gx (l:List ByteArray) (s:ByteArray) (k:Nat) (h:ll (l.take k) s=true):ll l s=true:=by
 unfold ll at h ⊢;simp only[WA]at h ⊢;obtain⟨x,u,e⟩:=h;exact⟨x,VA u,e⟩
def xW (ao:Option Addr) (l:List ByteArray) (cap:Nat) (s:ByteArray) (W:World) (h:Ls W ao l) (hl:l.length<=1000) :
  Sa 278 #[.slice ao l.length cap,.string s] W λr w'=>(∃z:Int,Uk r (Tu z)/\(decide (0<=z)=ll l s))/\w'=W:=by
 have H:=aW h;clear h;go_enter func278,ntmps278;(go_wp2_with fail)
 go_loopw [5,8] (λ_ i wr=>∃k:Nat,k<=l.length/\i=Tu k/\Hid (ll (l.take k) s=false)/\wr=W) (λ_ i _=>l.length-(intOf i).toNat)
 case atStart=>exact⟨0,RU _,rfl,by show ll _ _=_;simp[ll],rfl⟩
 case round=>
  obtain⟨k,S,rfl,HI,rfl⟩:=hrel
  by_cases u:k<l.length
  ·have Q:(k:Int)<l.length:=by omega
   have Y:(0:Int)<=k:=by omega
   obtain⟨x,I⟩:∃x,l[k]?=some x:=⟨_,Pi u⟩;obtain⟨b,off,rfl,hc⟩:=H.out k x I;have M:=aW (Gy l s x k I HI.out);have O:Hid (ll (l.take (k+1)) s=true->ll l s=true):=Gx l s _;clear I
   by_cases G:(s.toList==x.toList)=true
   ·(go_wp2_with fail);go_ret;exact⟨⟨_,rfl,by rw[O.out (M.out.trans G)];simp⟩,rfl⟩
   ·have J:(s.toList==x.toList)=false:=by simpa using G
    clear G;(go_wp2_with fail);exact⟨⟨k+1,u,by go_num,M.out.trans J,trivial⟩,by simp[intOf];omega⟩
  ·obtain rfl:k=l.length:=by omega
   have Q:¬((l.length:Int)<l.length):=by omega
   (go_wp2_with fail);go_ret;refine⟨⟨_,rfl,?_⟩,rfl⟩;have:=HI.out;rw[Te]at this;rw[this];rfl
def jJ (ao:Option Addr) (l:List ByteArray) (cap:Nat) (s:ByteArray) (W:World) (h:Ls W ao l) (hl:l.length<=1000) :
  Sa 263 #[.slice ao l.length cap,.string s] W λr w'=>Uk r (.bool (ll l s))/\w'=W:=by
 have H:=aW (xW ao l cap s W h hl);clear h;generalize ll l s=b at *;go_enter func263,ntmps263
 go_wp2_with(go_at_call 278;refine H.out.mono ?_;rintro r G⟨⟨z,rfl,u⟩,rfl⟩;subst u)
 go_ret;exact⟨by simp,rfl⟩
def nW (X:Sx) (d:D):List Ev:=⟨1,1,av⟩ :: ((bu X.l).map j9++d.v.tail)
structure SD (X:Sx) (r:Nat) (d:D) (W:World):Prop where
 sv:dj X (ps X.l d.i) d.p.length (nW X d) W
 e0:d.e=0
 il:d.i<=(aD X.l).length
 nn:d.N=λj=>(ql X.l j).map j9
 v0:d.v≠[]
 sm:d.s<=100*d.i+r
 el:(nW X d).length+d.p.length=2*d.s+ps X.l d.i
def SD.below {X:Sx}(h:SD X r d W) (u:Below W.heap.size W W'):SD X r d W':=⟨h.sv.below u,h.e0,h.il,h.nn,h.v0,h.sm,h.el⟩
def SD.up {X:Sx}{r':Nat}(h:SD X r d W) (u:r<=r'):SD X r' d W:=⟨h.sv,h.e0,h.il,h.nn,h.v0,PI h.sm (by omega),h.el⟩
def Ee (l:List Tv):(aD l).length<=l.length:=List.length_filter_le _ _
def SD.len {X:Sx}(h:SD X r d W) (O:r<=1000):(nW X d).length+1+X.l.length<=1000000000:=by
 have u:=h.el;have G:=h.sm;have H:=h.il;have I:=Ee X.l;have J:=h.sv.hl;have M:=fd X.l d.i;omega
def SD.hnxt {X:Sx}(h:SD X r d W):cB (aD X.l) d=(aD X.l)[d.i]?:=by unfold cB;rw[Or h.e0]
def SD.hnx {X:Sx}(h:SD X r d W):nx X (ps X.l d.i)=(cB (aD X.l) d).getD av:=by rw[h.hnxt];unfold nx;rw[vE]
def SD.hqn {X:Sx}(h:SD X r d W) {f:Tv->Bool}(u:f av=false):qn (aD X.l) d f=f (nx X (ps X.l d.i)):=by
 rw[h.hnx];unfold qn;cases cB (aD X.l) d with
 |none=>exact u.symm
 |some t=>rfl
def SD.hend {X:Sx}(h:SD X r d W):(ps X.l d.i=X.l.length↔¬d.i<(aD X.l).length):=by
 have u:=fd X.l d.i;rw[<-Al];omega
def jA (X:Sx) (v:Value) (d:D) (e:Ending) (w:World):Prop:=(d.e=0/\Uk e v/\SD X 0 d w)\/(d.e≠0/\e=.panicked (stop d.e (ps X.l d.i))/\Below X.w0.heap.size X.w0 w)
def kh {a b:List Ev}(h:a≠[]):(a++b).tail=a.tail++b:=by
 cases a with
 |nil=>exact absurd rfl h
 |cons x a=>rfl
def zF {X:Sx}(h:SD X r d W) (Y:r<=100) {x:Fl}(J:qn (aD X.l) d (λt=>x.takes t)=true) :
  Sa 277 #[pg X.g] W λe w'=>jA X (.tuple #[]) (iW (aD X.l) x d) e w':=by
 have M:iW (aD X.l) x d=eu (aD X.l) true d:=by unfold iW;rw[J]
 rw[M];obtain⟨I,u⟩:=Ah J;obtain⟨t,ht⟩:∃t,(aD X.l)[d.i]?=some t:=⟨_,Pi u⟩;have G:X.l[ps X.l d.i]?=some t:=by rw[vE];exact ht
 unfold eu;simp only[TU]
 by_cases hd:1000<d.p.length
 ·rw[Or hd];refine(Cg h.sv hd).mono ?_;rintro e w'⟨rfl,S⟩;exact .inr ⟨(by show(122:Int)≠0;decide),rfl,h.sv.bel.trans (S.mono h.sv.bel.size)⟩
 ·rw[Eq hd];have hl:=h.len (by omega);refine(B3 h.sv G (by omega) hl).mono ?_;rintro e w'⟨rfl,Q⟩;obtain⟨p1,p2⟩:=sE X.l d.i u;refine .inl ⟨I,rfl,?_,I,u,h.nn,by simp,?_,?_⟩
  ·rw[p1];show dj X _ _ (nW X { d with i:=d.i+1,l:=if d.i+1=(aD X.l).length then d.p else d.l,v:=d.v++⟨2,0,(aD X.l)[d.i]?.getD av⟩ :: d.N d.i }) w'
   have O:nW X { d with i:=d.i+1,l:=if d.i+1=(aD X.l).length then d.p else d.l,v:=d.v++⟨2,0,(aD X.l)[d.i]?.getD av⟩ :: d.N d.i }=nW X d++⟨2,0,t⟩ :: (ql X.l d.i).map j9:=by
    unfold nW;rw[kh h.v0,ht,h.nn];simp
   rw[O,p2];exact Q
  ·have:=h.sm;show d.s<=100*(d.i+1)+0;omega
  ·have H:=h.el;show(nW X _).length+d.p.length=2*d.s+ps X.l (d.i+1);rw[p1];unfold nW at H ⊢;simp only[kh h.v0,h.nn,List.length_cons,IO,Td]at H ⊢;omega
def jb {X:Sx}(h:SD X r d W) (v:Value) :
  Sa 204 #[pg X.g] W λe w'=>jA X v (eu (aD X.l) false d) e w'/\(eu (aD X.l) false d).e≠0/\e=.panicked (stop (eu (aD X.l) false d).e (ps X.l (eu (aD X.l) false d).i))/\Below X.w0.heap.size X.w0 w':=by
 refine(oO h.sv).mono ?_;rintro e w'⟨rfl,J⟩;have u:=h.sv.bel.trans (J.mono h.sv.bel.size);have I:=h.e0;have H:=h.hend;unfold eu;simp only[R5,SW,Or I]
 by_cases G:d.i<(aD X.l).length
 ·have:¬ps X.l d.i=X.l.length:=λe=>(H.1 e) G
  rw[Or G,Eq this];exact⟨.inr ⟨(by show(120:Int)≠0;decide),rfl,u⟩,(by show(120:Int)≠0;decide),rfl,u⟩
 ·rw[Eq G,Or (H.2 G)];exact⟨.inr ⟨(by show(121:Int)≠0;decide),rfl,u⟩,(by show(121:Int)≠0;decide),rfl,u⟩
