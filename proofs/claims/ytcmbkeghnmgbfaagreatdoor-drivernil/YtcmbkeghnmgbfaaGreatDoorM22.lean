import Derived.Laws.EntriesVeiled
import Derived.Test.YtcmbkeghnmgbfaaGreatDoorM21
set_option linter.all false
set_option maxHeartbeats 1000000
namespace Go.Proofs.YtcmbkeghnmgbfaaGreatDoor.Lw
open Go.Proofs.Tryz
open Lx
open Go.RowKit
variable {k D:Nat}{rl:List Nat}{w':World}
theorem qd {N:Nat}(J:N<=4096) {l:List Dc}{p:Pr}{d:Dc}{r:List Dc}{dp:Nat}(h:sa N l ⟨p,d :: r,dp,false⟩) (M:(jl N p (d :: r)).2=true):sa N l ⟨put N d (jl N p (d :: r)).1 p,r,dp,false⟩:=by
 have I:r.length+1<=l.length:=h.len;have F:d :: r=l.drop (l.length-(r.length+1)):=h.wt;refine⟨h.op,rfl,by show r.length<=l.length;omega,?_,?_⟩
 ·show r=l.drop (l.length-r.length)
  have e:l.length-r.length=(l.length-(r.length+1))+1:=by omega
  rw[e,<-M4,<-F];rfl
 ·intro u G;have H:p=gV N (l++u) (l.length-(r.length+1)):=h.pr u G
  have kv:(l++u).drop (l.length-(r.length+1))=d :: (r++u):=by
   rw[K9 (by omega),<-F];rfl
  have:=(nQ J G kv (.inl (by rw[<-H];exact M))).1;rw[<-H]at this;show put N d (jl N p (d :: r)).1 p=gV N (l++u) (l.length-r.length);rw[this]
  congr 1;omega
theorem zK {N:Nat}(M:N<=4096) {l:List Dc}{p:Pr}{v:List Dc}{dp:Nat}(h:sa N l ⟨p,v,dp,false⟩):∃u,Ft N p (bm (v++u)).2.1 (bm (v++u)).2.2/\(∀d∈v,rt d=true)/\∀d r,v=d :: r->d.k=7->p.ar≠[]:=by
 have G:cH 0 0 (l++List.replicate dp (dK 7))=none:=by
  rw[oQ l _ 0 _ 0 h.op];exact rz _ _
 have I:v.length<=l.length:=h.len;have F:v=l.drop (l.length-v.length):=h.wt;have H:p=gV N (l++List.replicate dp (dK 7)) (l.length-v.length):=h.pr _ G
 have kv:(l++List.replicate dp (dK 7)).drop (l.length-v.length)=v++List.replicate dp (dK 7):=by
  rw[K9 (by omega),<-F]
 have:=oO M G (l.length-v.length) (by rw[Kf];omega);rw[<-H,kv]at this;refine⟨_,this,fun d hd=>oP _ 0 0 G d (MY _ ?_),fun d r O J=>?_⟩
 ·rw[F]at hd;exact List.mem_of_mem_drop hd
 ·have hd:(l++List.replicate dp (dK 7))[l.length-v.length]?=some d:=by
   have e:((l++List.replicate dp (dK 7)).drop (l.length-v.length))[0]?=some d:=by rw[kv,O];rfl
   rw[KD]at e;simpa using e
  rw[H];exact js G hd J
theorem wa {N:Nat}(H:N<=4096) {l:List Dc}{m:Pm}{tot:Int}{dp D:Nat}{rl:List Nat}:∀(hl:List Nat) (v:List Dc) (p:Pr),WI m tot hl rl v D->sa N l ⟨p,v,dp,false⟩->Fe p v->(fU N tot m p hl).1=(drn N p v).1/\WI m tot (fU N tot m p hl).2 rl (drn N p v).2 D/\sa N l ⟨(drn N p v).1,(drn N p v).2,dp,false⟩/\Fe (drn N p v).1 (drn N p v).2
 |[],[],p,hw,hS,hF=>⟨rfl,hw,hS,hF⟩
 |[],_ :: _,p,hw,hS,hF=>hw.hi.elim
 |_ :: _,[],p,hw,hS,hF=>hw.hi.elim
 |b :: bs,d :: r,p,hw,hS,hF=>by
  obtain⟨⟨ah,h1,h2⟩,_⟩:=hw.hi;have hn:=ki h2
  have e1:fU N tot m p (b :: bs)=if pD N p d (sc d r).ok (sc d r).n=true then fU N tot m (put N d (sc d r).n p) bs else(p,b :: bs):=by
   rw[fU,h1];simp only[hn,Lp]
  have hs:=uG (N:=N) hF;obtain⟨G,I,J,h7⟩:=zK H hS;have O:=oi H (r:=r) (rest:=G) I hF;rw[e1,drn,hs]
  by_cases hc:pD N p d (sc d r).ok (sc d r).n=true
  ·rw[Kd hc,Kd hc,<-O];have u:=qd H hS (hs.trans hc);rw[<-O]at u;refine wa H bs r _ hw.tail u (tX hF (J d Ko) (h7 d r rfl) (fun M F=>?_));have h3:¬d.k=3:=by omega
   unfold pD at hc;simp[F,M]at hc;have es:sc d r=r.foldl fq ⟨0,1,false⟩:=by unfold sc;rw[Kd M]
   rw[es]at hc;exact vM r 0 1 hc
  ·rw[IO hc,IO hc];exact⟨rfl,hw,hS,hF⟩
def HC (m:Pm):List Nat->List Dc->Prop
 |[],[]=>True
 |b :: bs,d :: r=>(∃ah st,m b=some ⟨d,ah,st,((sc d r).n:Int)⟩/\(jO d=true->st=true))/\HC m bs r
 |_,_=>False
theorem wb {N:Nat}(M:N<=4096) {l:List Dc}(F:cH 0 0 l=none) {m:Pm}{tot:Int}:∀(hl:List Nat) (v:List Dc) (k:Nat),HC m hl v->k<=l.length->l.drop k=v->Fe (gV N l k) v->fU N tot m (gV N l k) hl=(vW N (gV N l k) v,[])
 |[],[],k,_,_,_,_=>rfl
 |[],_ :: _,k,h,_,_,_=>h.elim
 |_ :: _,[],k,h,_,_,_=>h.elim
 |b :: bs,d :: r,k,h,hk,hd,hF=>by
  obtain⟨⟨ah,st,h1,O⟩,h3⟩:=h;have J:=oO M F k hk;rw[hd]at J;have hp:=oi M (r:=r) (rest:=[]) (by rw[KP];exact J) hF;obtain⟨e1,e2⟩:=nQ M F (r:=r) (rest:=[]) (by rw[KP];exact hd) (.inr rfl);rw[KP]at e2
  have aa:k<l.length:=by
   rcases LL k l.length with h|h
   ·exact h
   ·rw[Lu h]at hd;cases hd
  have hn:Px.need tot ⟨d,ah,st,((sc d r).n:Int)⟩=(((sc d r).n:Nat):Int):=by
   unfold Px.need;cases hl:jO d
   ·simp
   ·simp[O hl]
  have hc:pD N (gV N l k) d st (sc d r).n=true:=by
   unfold pD;cases hl:jO d
   ·have:decide (d.k=6\/d.k=3)=false:=hl;rw[this];simp
   ·rw[O hl];simp
  have e3:fU N tot m (gV N l k) (b :: bs)=fU N tot m (put N d (sc d r).n (gV N l k)) bs:=by
   rw[fU,h1];simp only[hn,Lp];rw[Kd hc]
  rw[e3,vW,hp,e1]
  have I:l[k]?=some d:=by
   have e:(l.drop k)[0]?=some d:=by rw[hd];rfl
   rw[KD]at e;simpa using e
  have H:Fe (put N d (sc d r).n (gV N l k)) r:=by
   refine tX hF (oP l 0 0 F d (LF I)) (js F I) (fun h6 u=>?_);obtain⟨o,h0,_,_,G⟩:=iD (n:=N) F k hk;rw[hd]at G;simp only[cH]at G
   split at G
   ·rw[show cY d.k=1 by unfold cY;rw[Kd h6]]at G;rw[dv,KJ]at u;have es:sc d r=r.foldl fq ⟨0,1,false⟩:=by unfold sc;rw[Kd h6]
    rw[es]at u;have c1:=jo (R:=(N:Int)-((gV N l k).at:Nat)) r 0 1 _ _ (ge _) (by omega) G
    rcases(od ((N:Int)-((gV N l k).at:Nat)) r 0 1 (by omega)).1 c1 with c2|c2
    ·exact vM r 0 1 c2
    ·omega
   ·cases G
  rw[hp,e1]at H;exact wb M F bs r (k+1) h3 (by omega) e2 H
theorem HI.hc {m m':Pm}{tot:Int}:∀{hl:List Nat}{v:List Dc},HI m tot hl v->(∀b d r,jU hl v b d r->∀u,m b=some ⟨d,u,(sc d r).ok,if(sc d r).ok then((sc d r).n:Int)else 0⟩->wr (tot-u)=((jc (d :: r):Nat):Int)->∃u st,m' b=some ⟨d,u,st,((sc d r).n:Int)⟩/\(jO d=true->st=true))->HC m' hl v
 |[],[],_,_=>trivial
 |b :: bs,d :: r,h,hA=>by
  obtain⟨⟨u,H,I⟩,J⟩:=h;exact⟨hA b d r (.inl ⟨rfl,rfl,rfl⟩) u H I,J.hc (fun F G O M=>hA F G O (.inr M))⟩
 |[],_ :: _,h,_=>h.elim
 |_ :: _,[],h,_=>h.elim
theorem JJ {d:Dc}{r:List Dc}(h:¬(d.k=6\/d.k=3)):sc d r=⟨0,0,false⟩:=by unfold sc;rw[IO (by omega),IO (by omega)]
theorem WI.close {m:Pm}{tot:Int}{hl:List Nat}{v:List Dc}(h:WI m tot hl rl v 0):HC (sett tot 7 m rl).1 hl v/\(sett tot 7 m rl).2=[]:=by
 have u:∀(b:Nat) (d:Dc) (r:List Dc) (F:Int),m b=some ⟨d,F,(sc d r).ok,if(sc d r).ok then((sc d r).n:Int)else 0⟩->(jO d=true->(sc d r).ok=true)->∃F st,m b=some ⟨d,F,st,((sc d r).n:Int)⟩/\(jO d=true->st=true):=by
  intro b d r F G I;refine⟨F,(sc d r).ok,?_,I⟩;rw[G];cases H:(sc d r).ok
  ·have:¬(d.k=6\/d.k=3):=fun J=>by
    have:=I (Ku J);rw[H]at this;cases this
   rw[JJ this];rfl
  ·rfl
 have hw:=h.wr;cases rl with
 |nil=>
  refine⟨h.hi.hc (fun b d r ha F G I=>?_),rfl⟩;refine u b d r F G (fun J=>?_);cases H:(sc d r).ok
  ·exact nomatch h.cm b d r ha (KQ J) H
  ·rfl
 |cons c rest=>
  obtain⟨x,O,e2,e3⟩:=hw
  rcases e3 with⟨k1,k2,k3⟩|⟨k1,k2,k3,k4⟩
  ·have:=k3.le.1;omega
  ·have hr:rest=[]:=by
    cases rest with
    |nil=>rfl
    |cons b' r'=>
     obtain⟨x',f1,f2⟩:=k3 b' r' rfl;obtain⟨x2,g1,g2,M⟩:=k4
     rcases M with⟨_,_,M⟩|⟨M,_⟩
     ·have:=M.le.1;omega
     ·rw[f1]at g1;cases g1;omega
   subst hr
   have es:sett tot 7 m [c]=(fj m c (x.settle tot),[]):=by
    rw[sett,O];simp only[k1,MG];rfl
   rw[es];refine⟨h.hi.hc (fun b d r ha F G I=>?_),rfl⟩
   by_cases hb:b=c
   ·subst hb;rw[G]at O;cases O;have H:(sc d r).ok=false:=e2;refine⟨F,true,(cg _ _ _).trans ?_,fun _=>rfl⟩;unfold Px.settle;rw[ki I]
   ·obtain⟨aa,st,i1,i2⟩:=u b d r F G (fun J=>by
     cases H:(sc d r).ok
     ·have:=h.cm b d r ha (KQ J) H;simp at this;exact absurd this hb
     ·rfl)
    exact⟨aa,st,(fd _ _ hb).trans i1,i2⟩
theorem WR.on {m:Pm}{tot:Int}{hl:List Nat}{v:List Dc}{D:Nat}{x:Dc}(M:HI m tot hl v):∀{l:Nat}{rl:List Nat},WR m hl v D l rl->(x.k=7->1<=l)->(dN x->1<=l\/(∀b' r',rl=b' :: r'->∃O,m b'=some O/\O.d.k=6))->∀b∈rl,∀d r,jU hl v b d r->(sc d (r++[x])).ok=false
 |l,[],h,_,_,b,F,_,_,_=>nomatch F
 |l,b0 :: rl,h,h7,hE,b,F,d,r,ha=>by
  obtain⟨y,h1,h2,h3⟩:=h
  have I:y.d.k=3->dN x->1<=l:=fun k e=>by
   rcases hE e with h|h
   ·exact h
   ·obtain⟨O,e1,e2⟩:=h b0 rl rfl;rw[h1]at e1;cases e1;omega
  rcases KL.1 F with rfl|F
  ·obtain⟨ah,e3,_⟩:=M.of ha;rw[h1]at e3;cases e3;have H:(sc d r).ok=false:=h2
   rcases h3 with⟨u,G,J⟩|⟨u,G,J,k4⟩
   ·have hd:=G d r ha;have hs:=oX (k:=x.k) h7;exact(uQ (x:=x) (.inl u) H (fun _=>by rw[hd,hs];omega) (fun e=>by have:d.k=6:=u;omega)).1
   ·have hd:=G d r ha;exact(uQ (x:=x) (.inr u) H (fun e=>by have:d.k=3:=u;omega) (fun _=>by rw[hd];exact fun h=>by have:=I u h.2;omega)).1
  ·rcases h3 with⟨u,G,J⟩|⟨u,G,J,k4⟩
   ·exact J.on M (fun _=>by omega) (fun _=>.inl (by omega)) b F d r ha
   ·exact k4.on M h7 (fun e=>.inl (I u e)) b F d r ha
theorem WI.sett {m:Pm}{tot:Int}{hl:List Nat}{v:List Dc}(h:WI m tot hl rl v D) {x:Dc}(hx:rt x=true) (h7:¬(x.k=7/\D=0)):∃P l,rl=P++(aP tot x.k m rl).2/\(∀b∈P,∃y,m b=some y/\y.st=false/\jO y.d=true/\(aP tot x.k m rl).1 b=some (y.settle tot)/\∀d r,jU hl v b d r->(sc d (r++[x])).ok=true/\(sc d (r++[x])).n=(sc d r).n)/\(∀b,b∉P->(aP tot x.k m rl).1 b=m b)/\WR m hl v D l (aP tot x.k m rl).2/\(x.k=7->l=1)/\(x.k≠7->l=0)/\(dN x->1<=l\/(∀O r',(aP tot x.k m rl).2=O :: r'->∃x',m O=some x'/\x'.d.k=6)):=by
 have hw:=h.wr;have ai:x.k=1\/x.k=2\/x.k=3\/x.k=4\/x.k=5\/x.k=6\/x.k=7:=by cases iy hx<;>simp
 by_cases hq:x.k=1\/x.k=2\/x.k=6
 ·have e:aP tot x.k m rl=(m,rl):=by unfold aP;rw[Kd hq]
  rw[e];exact⟨[],0,rfl,fun b u=>(nomatch u),fun _ _=>rfl,hw,fun h=>by omega,fun _=>rfl,fun h=>by unfold dN at h;omega⟩
 ·have e:aP tot x.k m rl=Go.Proofs.YtcmbkeghnmgbfaaGreatDoor.Lw.sett tot x.k m rl:=by unfold aP;rw[IO hq]
  have hE:dN x:=by unfold dN;omega
  rw[e];clear e
  have ac:∀(b:Nat) (y:Px) (d:Dc) (r:List Dc),m b=some y->y.st=false->jU hl v b d r->d=y.d/\(sc d r).ok=false:=fun b y d r G M ha=>by
   obtain⟨ah,e3,_⟩:=h.hi.of ha;rw[G]at e3;cases e3;exact⟨rfl,M⟩
  have aa:∀(H:Pm) (b:Nat) (y:Px) (F:List Nat),m b=some y->H b=m b->y.st=false->y.d.k=6->(∀d r,jU hl v b d r->(sc d r).dp=0+1)->WR m hl v D (0+1) F ->
    ∃P l,b :: F=P++(Go.Proofs.YtcmbkeghnmgbfaaGreatDoor.Lw.sett tot x.k H (b :: F)).2/\(∀c∈P,c=b/\jO y.d=true/\(Go.Proofs.YtcmbkeghnmgbfaaGreatDoor.Lw.sett tot x.k H (b :: F)).1 c=some (y.settle tot)/\∀d r,jU hl v c d r->(sc d (r++[x])).ok=true/\(sc d (r++[x])).n=(sc d r).n)/\(∀c,c∉P->(Go.Proofs.YtcmbkeghnmgbfaaGreatDoor.Lw.sett tot x.k H (b :: F)).1 c=H c)/\WR m hl v D l (Go.Proofs.YtcmbkeghnmgbfaaGreatDoor.Lw.sett tot x.k H (b :: F)).2/\(x.k=7->l=1)/\(x.k≠7->l=0)/\(1<=l\/(∀O r',(Go.Proofs.YtcmbkeghnmgbfaaGreatDoor.Lw.sett tot x.k H (b :: F)).2=O :: r'->∃x',m O=some x'/\x'.d.k=6)):=by
   intro H b y F G hm M I k2 k3;have n3:¬y.d.k=3:=by omega
   by_cases J:x.k=7
   ·have es:Go.Proofs.YtcmbkeghnmgbfaaGreatDoor.Lw.sett tot x.k H (b :: F)=(fj H b (y.settle tot),F):=by
     rw[Go.Proofs.YtcmbkeghnmgbfaaGreatDoor.Lw.sett,hm,G];simp only[n3,J,MG,LP]
    rw[es];refine⟨[b],1,rfl,fun c hc=>?_,fun c hc=>fd _ _ (by simpa using hc),k3,fun _=>rfl,fun h=>absurd J h,.inl (ge _)⟩;obtain rfl:c=b:=by simpa using hc
    refine⟨rfl,Ku (.inl I),cg _ _ _,fun d r ha=>?_⟩;obtain⟨rfl,ho⟩:=ac c y d r G M ha;refine zS ho (.inl ⟨I,?_⟩);rw[k2 _ r ha,J];rfl
   ·have es:Go.Proofs.YtcmbkeghnmgbfaaGreatDoor.Lw.sett tot x.k H (b :: F)=(H,b :: F):=by
     rw[Go.Proofs.YtcmbkeghnmgbfaaGreatDoor.Lw.sett,hm,G];simp only[n3,J,LP]
    rw[es];exact⟨[],0,rfl,fun c hc=>(nomatch hc),fun _ _=>rfl,⟨y,G,M,.inl ⟨I,k2,k3⟩⟩,fun h=>absurd h J,fun _=>rfl,.inr fun O r' e=>by cases e;exact⟨y,G,I⟩⟩
  cases rl with
  |nil=>
   have hD:0=D:=hw;have es:Go.Proofs.YtcmbkeghnmgbfaaGreatDoor.Lw.sett tot x.k m []=(m,[]):=rfl;rw[es];exact⟨[],0,rfl,fun b u=>(nomatch u),fun _ _=>rfl,hw,fun e=>absurd ⟨e,hD.symm⟩ h7,fun _=>rfl,fun _=>.inr fun O r' e=>by cases e⟩
  |cons c rest=>
   obtain⟨y,G,M,h3⟩:=hw
   rcases h3 with⟨I,k2,k3⟩|⟨I,k2,k3,k4⟩
   ·obtain⟨P,l,i1,i2,i3,i4,i5,i6,i7⟩:=aa m c y rest G rfl M I k2 k3;refine⟨P,l,i1,fun b u=>?_,i3,i4,i5,i6,fun _=>i7⟩;obtain⟨rfl,j1,j2,j3⟩:=i2 b u;exact⟨y,G,M,j1,j2,j3⟩
   ·have es:Go.Proofs.YtcmbkeghnmgbfaaGreatDoor.Lw.sett tot x.k m (c :: rest)=Go.Proofs.YtcmbkeghnmgbfaaGreatDoor.Lw.sett tot x.k (fj m c (y.settle tot)) rest:=by
     rw[Go.Proofs.YtcmbkeghnmgbfaaGreatDoor.Lw.sett,G];simp only[I,MG]
    rw[es]
    have hc:∀d r,jU hl v c d r->(sc d (r++[x])).ok=true/\(sc d (r++[x])).n=(sc d r).n:=fun d r ha=>by
     obtain⟨rfl,ho⟩:=ac c y d r G M ha;exact zS ho (.inr ⟨I,k2 _ r ha,hE⟩)
    have ag:c∉rest:=(Mu.1 h.nw).1;cases rest with
    |nil=>
     have hD:0=D:=k4;have ad:Go.Proofs.YtcmbkeghnmgbfaaGreatDoor.Lw.sett tot x.k (fj m c (y.settle tot)) []=(fj m c (y.settle tot),[]):=rfl;rw[ad];refine⟨[c],0,rfl,fun b u=>?_,fun b u=>fd _ _ (by simpa using u),k4,fun e=>absurd ⟨e,hD.symm⟩ h7,fun _=>rfl,fun _=>.inr fun O r' e=>by cases e⟩;obtain rfl:b=c:=by simpa using u
     exact⟨y,G,M,Ku (.inr I),cg _ _ _,hc⟩
    |cons b2 F=>
     obtain⟨x',f1,f2⟩:=k3 b2 F rfl;obtain⟨y2,g1,g2,g3⟩:=k4;rw[f1]at g1;cases g1
     rcases g3 with⟨g3,g4,g5⟩|⟨g3,_⟩
     ·have ab:b2≠c:=fun e=>ag (by rw[<-e];exact Ko)
      obtain⟨P,l,i1,i2,i3,i4,i5,i6,i7⟩:=aa (fj m c (y.settle tot)) b2 x' F f1 (fd _ _ ab) g2 g3 g4 g5;have af:c∉P:=fun hc=>ab (i2 c hc).1.symm
      refine⟨c :: P,l,by rw[KF,<-i1],fun b u=>?_,fun b u=>?_,i4,i5,i6,fun _=>i7⟩
      ·rcases KL.1 u with rfl|u
       ·exact⟨y,G,M,Ku (.inr I),by rw[i3 b af,cg],hc⟩
       ·obtain⟨rfl,j1,j2,j3⟩:=i2 b u;exact⟨x',f1,g2,j1,j2,j3⟩
      ·rw[i3 b (fun ae=>u (KA _ ae)),fd _ _ (fun e=>u (by rw[e];exact Ko))]
     ·omega
theorem HI.mem {m:Pm}{tot:Int}:∀{hl:List Nat}{v:List Dc},HI m tot hl v->∀b∈hl,∃y,m b=some y
 |[],[],_,b,u=>nomatch u
 |b0 :: bs,d :: r,h,b,u=>by
  obtain⟨⟨H,F,I⟩,G⟩:=h
  rcases KL.1 u with rfl|u
  ·exact⟨_,F⟩
  ·exact G.mem b u
 |[],_ :: _,h,_,_=>h.elim
 |_ :: _,[],h,_,_=>h.elim
theorem WI.take {m:Pm}{tot:Int}{hl:List Nat}{v:List Dc}(h:WI m tot hl rl v D) {x:Dc}(hx:rt x=true) (h7:¬(x.k=7/\D=0)) {nb:Nat}(aj:m nb=none) (F:jc v+pw x<4611686018427387904) :
  WI (fj (aP tot x.k m rl).1 nb ⟨x,tot,false,0⟩) (Go.Proofs.YtcmbkeghnmgbfaaGreatDoor.Lw.wr (tot+(pw x:Nat))) (hl++[nb]) (if jO x=true then nb :: (aP tot x.k m rl).2 else(aP tot x.k m rl).2) (v++[x]) (dn x.k D):=by
 obtain⟨P,l,i1,i2,i3,i4,i5,i6,i7⟩:=h.sett hx h7
 generalize au:(aP tot x.k m rl).1=m1 at *
 generalize av:(aP tot x.k m rl).2=rl1 at *
 have ar:∀b∈rl1,b∈rl:=fun b F=>by rw[i1];exact MO _ F
 have ak:(P++rl1).Nodup:=by rw[<-i1];exact h.nw
 have al:∀b∈rl1,b∉P:=fun b F hp=>(L9.1 ak).2.2 b hp b F rfl
 have ad:∀b∈rl1,b≠nb:=fun b F e=>by
  obtain⟨y,I,_⟩:=i4.mem b F;rw[e,aj]at I;cases I
 have ac:∀b∈hl,b≠nb:=fun b F e=>by
  obtain⟨y,I⟩:=h.hi.mem b F;rw[e,aj]at I;cases I
 have ae:x.k=7->1<=l:=fun e=>by rw[i5 e];exact ge _
 have ai:∀b∈rl1,fj m1 nb ⟨x,tot,false,0⟩ b=m b/\b≠nb:=fun b F=>⟨by rw[fd _ _ (ad b F),i3 b (al b F)],ad b F⟩
 have H:=i4.shift (m':=fj m1 nb ⟨x,tot,false,0⟩) (nb:=nb) (x:=x) h.hi ai ae i7;have aq:=i4.on (x:=x) h.hi ae i7
 have O:∀d r',jU (hl++[nb]) (v++[x]) nb d r'->d=x/\r'=[]:=fun d r' G=>by
  rcases jU.snoc h.hi.len G with⟨r,I,M⟩|⟨_,I,M⟩
  ·exact absurd rfl (ac nb M.mem)
  ·exact⟨I,M⟩
 refine⟨?_,?_,?_,?_,?_⟩
 ·refine HI.snoc (m:=m) (cg _ _ _) rfl h.hi F (fun b d r G ah h1 h2=>?_);rw[fd _ _ (ac b G.mem)]
  by_cases aa:b∈P
  ·obtain⟨y,j1,j2,j3,j4,j5⟩:=i2 b aa;rw[h1]at j1;cases j1;obtain⟨q1,q2⟩:=j5 d r G;have J:(sc d r).ok=false:=j2;rw[j4,q1,q2];unfold Px.settle;rw[ki h2];simp
  ·rw[i3 b aa,h1]
   by_cases hs:(sc d r).ok=true\/¬(d.k=6\/d.k=3)
   ·rw[uP hs]
   ·have J:(sc d r).ok=false:=by
     cases J:(sc d r).ok
     ·rfl
     ·exact absurd (.inl J) hs
    have hk:d.k=6\/d.k=3:=Mq fun hk=>hs (.inr hk)
    have u:=h.cm b d r G hk J;rw[i1]at u
    rcases Lg.1 u with u|u
    ·exact absurd u aa
    ·rw[aq b u d r G,J];rfl
 ·cases ag:jO x
  ·simp only[KE,LP]
   have am:dn x.k l=0:=by
    by_cases e7:x.k=7
    ·rw[i5 e7,e7];rfl
    ·have h6:x.k≠6:=fun e=>by have:=ME ag;omega
     rw[i6 e7];unfold dn;rw[IO h6,IO e7]
   rw[am]at H;exact H
  ·simp only[MG];have an:=KQ ag;have af:l=0:=i6 (by omega)
   rcases an with h6|h3
   ·have ab:dn x.k l=0+1:=by rw[af,h6];rfl
    rw[ab]at H;refine⟨⟨x,tot,false,0⟩,cg _ _ _,rfl,.inl ⟨h6,fun d r G=>?_,H⟩⟩;obtain⟨rfl,rfl⟩:=O d r G;unfold sc;rw[Kd h6];rfl
   ·have ab:dn x.k l=0:=by rw[af,h3];rfl
    rw[ab]at H;refine⟨⟨x,tot,false,0⟩,cg _ _ _,rfl,.inr ⟨h3,fun d r G=>?_,fun b' r' e=>?_,H⟩⟩
    ·obtain⟨rfl,rfl⟩:=O d r G;unfold sc;rw[IO (by omega),Kd h3];rfl
    ·rcases i7 (.inl h3)with h|h
     ·omega
     ·obtain⟨x',I,M⟩:=h b' r' e;exact⟨x',by rw[(ai b' (by rw[e];exact Ko)).1];exact I,M⟩
 ·intro b d r' G hk J
  rcases jU.snoc h.hi.len G with⟨r,rfl,M⟩|⟨rfl,rfl,rfl⟩
  ·have ap:(sc d r).ok=false:=by
    cases h0:(sc d r).ok
    ·rfl
    ·rw[uP (.inl h0),h0]at J;cases J
   have u:=h.cm b d r M hk ap;rw[i1]at u
   rcases Lg.1 u with u|u
   ·obtain⟨y,_,_,_,_,j5⟩:=i2 b u;rw[(j5 d r M).1]at J;cases J
   ·split
    ·exact KA _ u
    ·exact u
  ·have:jO d=true:=Ku hk;rw[Kd this];exact Ko
 ·rw[L9];exact⟨h.nh,Mu.2 ⟨by simp,List.nodup_nil⟩,fun a G b F=>by rw[Mk.1 F];exact ac a G⟩
 ·have h1:rl1.Nodup:=(L9.1 ak).2.1
  split
  ·exact Mu.2 ⟨fun F=>ad nb F rfl,h1⟩
  ·exact h1
structure Fz (own own':Nat->Nat) (W w':World):Prop where
 os:w'.os=W.os
 tape:w'.tape=W.tape
 output:w'.output=W.output
 size:W.heap.size<=w'.heap.size
 blk:∀k,k<W.heap.size->own k=0->w'.heap[k]?=W.heap[k]?/\own' k=0
theorem Fz.refl (own:Nat->Nat) (W:World):Fz own own W W:=⟨rfl,rfl,rfl,ge _,fun _ _ h=>⟨rfl,h⟩⟩
theorem Fz.trans {F G H:Nat->Nat}{A C D:World}(h:Fz F G A C) (k:Fz G H C D):Fz F H A D:=
 ⟨k.os.trans h.os,k.tape.trans h.tape,k.output.trans h.output,Kh h.size k.size,fun j u M=>by
  obtain⟨I,J⟩:=h.blk j u M;obtain⟨b1,b2⟩:=k.blk j (Kl u h.size) J;exact⟨b1.trans I,b2⟩⟩
theorem bV.fz {P:Nat->Prop}{own own':Nat->Nat}{W:World}(h:bV P own own' W w') (u:¬P 0):Fz own own' W w':=
 ⟨h.os,h.tape,h.output,h.size,fun k F e=>⟨h.block k F (by rw[e];exact u),(h.old k F (by rw[e];exact u)).trans e⟩⟩
theorem Fz.of_below {own:Nat->Nat}{W w':World}(h:Below W.heap.size W w'):Fz own own W w':=⟨h.os,h.tape,h.output,h.size,fun k u e=>⟨h.block k u,e⟩⟩
theorem bV.set {P:Nat->Prop}{own:Nat->Nat}{W:World}{g:Nat}(u:P (own g)) (k:Nat) (v:Value):bV P own own W (W.setCell ⟨g,k,none⟩ v):=by
 have h:=Kp.set W g k v;exact⟨h.os,h.tape,h.output,h.size,fun j F G=>h.block j F (fun e=>G (by rw[e];exact u)),fun _ _ _=>rfl⟩
theorem En.frp {P:Nat->Prop}{own own':Nat->Nat}{w w':World}(h:En own w) (H:¬P 0) (J:Nf own' w') (u:bV P own own' w w'):En own' w':=by
 have M:=u.old 5 h.tab.pos (by rw[h.z];exact H);refine⟨J,?_,M.trans h.z⟩
 have F:Fr 1 (fun k=>if k=5 then 0 else 1) (fun k=>if k=5 then 0 else 1) w w':=⟨u.os,u.tape,u.output,u.size,fun k I G=>by
  have e:k=5:=Mq fun e=>G (IO e)
  exact u.block k I (by rw[e,h.z];exact H),fun _ _=>rfl⟩
 exact F.tab h.tab (by simp)
structure CS where
 op:Nat
 tot:Int
 hl:List Nat
 wl:List Nat
 m:Pm
 pr:Pr
def kv (qh qw:Nat) (c:CS):nK:=⟨.bool false,.int .i64 (c.op:Nat),.int .i64 c.tot,.pointer (some ⟨qh,0,none⟩),.int .i64 (c.hl.length:Nat),.pointer (some ⟨qw,0,none⟩),.int .i64 (c.wl.length:Nat)⟩
def yS (x:Px):Array Value:=#[.int .u8 x.d.k,.string x.d.t,.int .i64 x.d.b,.int .i64 x.d.i,.bool x.d.e,.int .i64 x.ah,.bool x.st,.int .i64 x.nd]
structure ST (own:Nat->Nat) (W:World) (g N gs qh qw:Nat) (v:Value) (csh csw:List (Nat × List Nat)) (c:CS):Prop where
 en:En own W
 lab:own g=2
 blk:W.heap[g]?=some (.cells (Ay (kv qh qw c) N gs c.pr.bl v c.pr.en) 122 (0,0))
 ar:W.ownsRow 0 116 3 v c.pr.ar.length (au mw c.pr.ar.reverse)/\∀k,v.ownBlock=some k->own k=2
 sk:SK own 1 W gs c.pr.sk
 rh:fe own 0 W qh csh
 hl:fl csh=c.hl
 rw:fe own 1 W qw csw
 wl:fl csw=c.wl
 pm:∀b x,c.m b=some x->W.heap[b]?=some (.cells (yS x) 255 (0,0))/\own b=5
def T9 (own:Nat->Nat) (W w':World) (g N:Nat) (c':CS):Prop:=∃own' gs qh qw v csh csw,ST own' w' g N gs qh qw v csh csw c'/\Fz own own' W w'
section
variable {own:Nat->Nat} {W:World} {g N gs qh qw:Nat} {v:Value} {csh csw:List (Nat × List Nat)} {c:CS}
theorem ST.lt (h:ST own W g N gs qh qw v csh csw c):g<W.heap.size:=ai h.blk
theorem ST.fz (h:ST own W g N gs qh qw v csh csw c) (k:Nat):W.frozen? ⟨g,k,none⟩=false:=aj h.blk
theorem ST.frp {P:Nat->Prop}{own':Nat->Nat}{w':World}(h:ST own W g N gs qh qw v csh csw c) (u:bV P own own' W w') (hn:Nf own' w') (hp:∀i,P i->i=0->False) (O:¬P 1) (H:¬P 2) (M:¬P 5) (I:∀i,Lr 0 i->¬P i) (J:∀i,Lr 1 i->¬P i):ST own' w' g N gs qh qw v csh csw c:=by
 refine⟨h.en.frp (fun e=>hp 0 e rfl) hn u,(u.old g h.lt (by rw[h.lab];exact H)).trans h.lab,(u.block g h.lt (by rw[h.lab];exact H)).trans h.blk,qn u H h.ar,h.sk.keptP u O,h.rh.kept u I,h.hl,h.rw.kept u J,h.wl,fun b x hb=>?_⟩;obtain⟨F,G⟩:=h.pm b x hb;exact⟨(u.block b (ai F) (by rw[G];exact M)).trans F,(u.old b (ai F) (by rw[G];exact M)).trans G⟩
theorem ST.below (h:ST own W g N gs qh qw v csh csw c) (u:Below W.heap.size W w'):ST own w' g N gs qh qw v csh csw c:=
 h.frp (P:=fun _=>False) (bV.of_below u) (h.en.nf.below u.size) (fun _ h _=>h) (fun h=>h) (fun h=>h) (fun h=>h) (fun _ _ h=>h) (fun _ _ h=>h)
theorem ST.c0 (h:ST own W g N gs qh qw v csh csw c):W.cell? ⟨g,0,none⟩=some (.bool false):=aa h.blk rfl
theorem ST.c1 (h:ST own W g N gs qh qw v csh csw c):W.cell? ⟨g,1,none⟩=some (.int .i64 (c.op:Nat)):=aa h.blk rfl
theorem ST.c2 (h:ST own W g N gs qh qw v csh csw c):W.cell? ⟨g,2,none⟩=some (.int .i64 c.tot):=aa h.blk rfl
theorem ST.c3 (h:ST own W g N gs qh qw v csh csw c):W.cell? ⟨g,3,none⟩=some (.pointer (some ⟨qh,0,none⟩)):=aa h.blk rfl
theorem ST.c4 (h:ST own W g N gs qh qw v csh csw c):W.cell? ⟨g,4,none⟩=some (.int .i64 (c.hl.length:Nat)):=aa h.blk rfl
theorem ST.c5 (h:ST own W g N gs qh qw v csh csw c):W.cell? ⟨g,5,none⟩=some (.pointer (some ⟨qw,0,none⟩)):=aa h.blk rfl
theorem ST.c6 (h:ST own W g N gs qh qw v csh csw c):W.cell? ⟨g,6,none⟩=some (.int .i64 (c.wl.length:Nat)):=aa h.blk rfl
theorem ST.c10 (h:ST own W g N gs qh qw v csh csw c):W.cell? ⟨g,10,none⟩=some (.bool c.pr.bl.ev):=aa h.blk rfl
theorem ST.setg (h:ST own W g N gs qh qw v csh csw c) (k:Nat) (x:Value) {c':CS}(hc:(Ay (kv qh qw c) N gs c.pr.bl v c.pr.en).setIfInBounds k x=Ay (kv qh qw c') N gs c.pr.bl v c.pr.en) (h1:c'.hl=fl csh) (h2:c'.wl=fl csw) (h3:c'.m=c.m) (F:c'.pr=c.pr):ST own (W.setCell ⟨g,k,none⟩ x) g N gs qh qw v csh csw c':=by
 have u:bV (fun i=>i=2) own own W (W.setCell ⟨g,k,none⟩ x):=bV.set h.lab k x;have M:=Kp.set W g k x;have hn:Nf own (W.setCell ⟨g,k,none⟩ x):=h.en.nf.below M.size;have r1:=aE h.ar.1 h.blk (by decide);refine⟨h.en.frp (by omega) hn u,h.lab,?_,?_,?_,h.rh.kept u (fun i G e=>by subst e;exact mh (by omega) G),h1.symm,h.rw.kept u (fun i G e=>by subst e;exact mh (by omega) G),h2.symm,fun b y J=>?_⟩
 ·rw[F];have:=ab h.blk k x;rw[hc]at this;exact this
 ·rw[F];exact⟨M.row h.ar.1 (fun j O e2=>r1 (by rw[O,e2])),h.ar.2⟩
 ·rw[F];exact h.sk.keptP u (by omega)
 ·rw[h3]at J;obtain⟨H,I⟩:=h.pm b y J;exact⟨(u.block b (ai H) (by rw[I];omega)).trans H,I⟩
theorem ST.setp (h:ST own W g N gs qh qw v csh csw c) {b:Nat}{x y:Px}(hb:c.m b=some x) (k:Nat) (u:Value) (hc:(yS x).setIfInBounds k u=yS y):ST own (W.setCell ⟨b,k,none⟩ u) g N gs qh qw v csh csw { c with m:=fj c.m b y }:=by
 obtain⟨p1,M⟩:=h.pm b x hb;have G:bV (fun i=>i=5) own own W (W.setCell ⟨b,k,none⟩ u):=bV.set M k u;have hk:=Kp.set W b k u;have hn:Nf own (W.setCell ⟨b,k,none⟩ u):=h.en.nf.below hk.size;refine⟨h.en.frp (by omega) hn G,h.lab,(G.block g h.lt (by rw[h.lab];omega)).trans h.blk,qn G (by omega) h.ar,h.sk.keptP G (by omega),h.rh.kept G (fun i I e=>by subst e;unfold Lr at I;omega),h.hl,h.rw.kept G (fun i I e=>by subst e;unfold Lr at I;omega),h.wl,fun F z H=>?_⟩
 by_cases e:F=b
 ·subst e
  have hz:z=y:=by
   have:fj c.m F y F=some z:=H;rw[cg]at this;cases this;rfl
  subst hz;refine⟨?_,M⟩;have:=ab p1 k u;rw[hc]at this;exact this
 ·have J:c.m F=some z:=by
   have:fj c.m b y F=some z:=H;rw[fd _ _ e]at this;exact this
  obtain⟨O,a2⟩:=h.pm F z J;exact⟨bf O e _,a2⟩
theorem ST.newp (h:ST own W g N gs qh qw v csh csw c) (x:Px) {W':World}(u:Below W.heap.size W W') {nb:Nat}(ab:W.heap.size<=nb) (ho:W'.heap[nb]?=some (.cells (yS x) 255 (0,0))):∃own',ST own' W' g N gs qh qw v csh csw { c with m:=fj c.m nb x }/\Fz own own' W W'/\own' nb=5:=by
 have aa:=ai ho;have G:bV (fun i=>i=5) own (fun k=>if k=nb then 5 else own k) W W':=⟨u.os,u.tape,u.output,u.size,fun k H _=>u.block k H,fun k H _=>IO (by omega)⟩
 have hn:Nf (fun k=>if k=nb then 5 else own k) W':=fun k H=>by
  show(if k=nb then 5 else own k)=0
  have:=u.size;rw[IO (by omega)];exact h.en.nf k (by omega)
 have hg:g≠nb:=by have:=h.lt;omega
 refine⟨fun k=>if k=nb then 5 else own k,⟨h.en.frp (by omega) hn G,(IO hg).trans h.lab,(u.block g h.lt).trans h.blk,qn G (by omega) h.ar,h.sk.keptP G (by omega),h.rh.kept G (fun i J e=>by subst e;unfold Lr at J;omega),h.hl,h.rw.kept G (fun i J e=>by subst e;unfold Lr at J;omega),h.wl,fun F z I=>?_⟩,?_,Kd rfl⟩
 ·by_cases e:F=nb
  ·subst e
   have hz:z=x:=by
    have:fj c.m F x F=some z:=I;rw[cg]at this;cases this;rfl
   subst hz;exact⟨ho,Kd rfl⟩
  ·have M:c.m F=some z:=by
    have:fj c.m nb x F=some z:=I;rw[fd _ _ e]at this;exact this
   obtain⟨O,a2⟩:=h.pm F z M;exact⟨(u.block F (ai O)).trans O,(IO e).trans a2⟩
 ·exact⟨u.os,u.tape,u.output,u.size,fun k H e=>⟨u.block k H,(IO (by omega)).trans e⟩⟩
theorem ST.rowH (h:ST own W g N gs qh qw v csh csw c) {W1:World}{l:List Nat}(ha:RA own 0 W W1 qh l) {n:Int}(hn:n=(l.length:Nat)):T9 own W (W1.setCell ⟨g,4,none⟩ (.int .i64 n)) g N { c with hl:=l }:=by
 subst hn;obtain⟨own',cs,k1,F,k3,k4⟩:=ha;have u:∀i,Lr 0 i->i≠0/\i≠1/\i≠2/\i≠5/\¬Lr 1 i:=fun i M=>by unfold Lr at *;omega
 have H:own' g=2:=(F.old g h.lt (by rw[h.lab];exact fun e=>(u _ e).2.2.1 rfl)).trans h.lab;have G:W1.heap[g]?=some (.cells (Ay (kv qh qw c) N gs c.pr.bl v c.pr.en) 122 (0,0)):=(F.block g h.lt (by rw[h.lab];exact fun e=>(u _ e).2.2.1 rfl)).trans h.blk;have J:bV (fun i=>i=2) own' own' W1 (W1.setCell ⟨g,4,none⟩ (.int .i64 (l.length:Nat))):=bV.set H 4 _;have hk:=Kp.set W1 g 4 (.int .i64 (l.length:Nat));have I:=qn F (fun e=>(u 2 e).2.2.1 rfl) h.ar;have r1:=aE I.1 G (by decide);have aa:Nf own' (W1.setCell ⟨g,4,none⟩ (.int .i64 (l.length:Nat))):=k1.below hk.size;refine⟨own',gs,qh,qw,v,cs,csw,⟨(h.en.frp (fun e=>(u _ e).1 rfl) k1 F).frp (by omega) aa J,H,ab G 4 _,⟨hk.row I.1 (fun j e1 u=>r1 (by rw[e1,u])),I.2⟩,(h.sk.keptP F (fun e=>(u 1 e).2.1 rfl)).keptP J (by omega),k3.kept J (fun i M e=>by subst e;exact mh (by omega) M),k4,(h.rw.kept F (fun i M e=>(u i e).2.2.2.2 M)).kept J (fun i M e=>by subst e;exact mh (by omega) M),h.wl,fun b x hb=>?_⟩,(F.fz (fun e=>(u 0 e).1 rfl)).trans (J.fz (by omega))⟩;obtain⟨O,a2⟩:=h.pm b x hb;have b1:=(F.block b (ai O) (by rw[a2];exact fun e=>(u _ e).2.2.2.1 rfl)).trans O;have b2:=(F.old b (ai O) (by rw[a2];exact fun e=>(u _ e).2.2.2.1 rfl)).trans a2;exact⟨(J.block b (ai b1) (by rw[b2];omega)).trans b1,b2⟩
theorem ST.rowW (h:ST own W g N gs qh qw v csh csw c) {W1:World}{l:List Nat}(ha:RA own 1 W W1 qw l) {n:Int}(hn:n=(l.length:Nat)):T9 own W (W1.setCell ⟨g,6,none⟩ (.int .i64 n)) g N { c with wl:=l }:=by
 subst hn;obtain⟨own',cs,k1,F,k3,k4⟩:=ha;have u:∀i,Lr 1 i->i≠0/\i≠1/\i≠2/\i≠5/\¬Lr 0 i:=fun i M=>by unfold Lr at *;omega
 have H:own' g=2:=(F.old g h.lt (by rw[h.lab];exact fun e=>(u _ e).2.2.1 rfl)).trans h.lab;have G:W1.heap[g]?=some (.cells (Ay (kv qh qw c) N gs c.pr.bl v c.pr.en) 122 (0,0)):=(F.block g h.lt (by rw[h.lab];exact fun e=>(u _ e).2.2.1 rfl)).trans h.blk;have J:bV (fun i=>i=2) own' own' W1 (W1.setCell ⟨g,6,none⟩ (.int .i64 (l.length:Nat))):=bV.set H 6 _;have hk:=Kp.set W1 g 6 (.int .i64 (l.length:Nat));have I:=qn F (fun e=>(u 2 e).2.2.1 rfl) h.ar;have r1:=aE I.1 G (by decide);have aa:Nf own' (W1.setCell ⟨g,6,none⟩ (.int .i64 (l.length:Nat))):=k1.below hk.size;refine⟨own',gs,qh,qw,v,csh,cs,⟨(h.en.frp (fun e=>(u _ e).1 rfl) k1 F).frp (by omega) aa J,H,ab G 6 _,⟨hk.row I.1 (fun j e1 u=>r1 (by rw[e1,u])),I.2⟩,(h.sk.keptP F (fun e=>(u 1 e).2.1 rfl)).keptP J (by omega),(h.rh.kept F (fun i M e=>(u i e).2.2.2.2 M)).kept J (fun i M e=>by subst e;exact mh (by omega) M),h.hl,k3.kept J (fun i M e=>by subst e;exact mh (by omega) M),k4,fun b x hb=>?_⟩,(F.fz (fun e=>(u 0 e).1 rfl)).trans (J.fz (by omega))⟩;obtain⟨O,a2⟩:=h.pm b x hb;have b1:=(F.block b (ai O) (by rw[a2];exact fun e=>(u _ e).2.2.2.1 rfl)).trans O;have b2:=(F.old b (ai O) (by rw[a2];exact fun e=>(u _ e).2.2.2.1 rfl)).trans a2;exact⟨(J.block b (ai b1) (by rw[b2];omega)).trans b1,b2⟩
def FP (own:Nat->Nat):Nat->Nat:=fun k=>if own k=1\/own k=2 then own k else 0
theorem IW (h:own k=1):FP own k=1:=by unfold FP;rw[Kd (.inl h),h]
theorem FO (h:own k=2):FP own k=2:=by unfold FP;rw[Kd (.inr h),h]
theorem AJ (h:own k≠1/\own k≠2):FP own k=0:=by unfold FP;rw[IO (by omega)]
theorem SK.rel {own':Nat->Nat}{s:cK}(h:SK own 1 W gs s) (H:∀k,k<W.heap.size->own k=1->own' k=1):SK own' 1 W gs s:=by
 obtain⟨tv,gv,text,J,I,F,G,M⟩:=h.ex;exact⟨H gs (ai I) h.lab,tv,gv,text,J,I,⟨F.1,fun k u=>H k (F.1.lt k u).2 (F.2 k u)⟩,⟨G.1,fun k u=>H k (G.1.lt k u).2 (G.2 k u)⟩,M⟩
theorem ST.pg (h:ST own W g N gs qh qw v csh csw c):cM (kv qh qw c) 0 W (FP own) W g gs N c.pr:=by
 refine⟨⟨fun k u=>?_,h.en.tab,?_⟩,fun k u=>by omega,gt _ _,Kj _,h.sk.rel (fun k _ e=>IW e),⟨v,h.blk,h.ar.1,fun k u=>FO (h.ar.2 k u)⟩,FO h.lab⟩
 ·exact AJ (by rw[h.en.nf k u];omega)
 ·exact AJ (by rw[h.en.z];omega)
theorem ST.unpg (h:ST own W g N gs qh qw v csh csw c) {p':Pr}{w':World}(ha:fT (kv qh qw c) 0 W (FP own) W g gs N p' w'):T9 own W w' g N { c with pr:=p' }:=by
 obtain⟨H,G,a2,a3⟩:=ha;obtain⟨v',b1,b2⟩:=G.pr;have hz:∀k,k<W.heap.size->(own k≠1/\own k≠2)->w'.heap[k]?=W.heap[k]?/\H k=0:=fun k u J=>a2 k u (AJ J)
 have F:∀k,H k=1\/H k=2->(if k<W.heap.size/\own k≠1/\own k≠2 then own k else H k)=H k:=fun k u=>by
  rw[IO];rintro⟨h1,h2⟩;have:=(hz k h1 h2).2;omega
 have I:bV (fun i=>i=1\/i=2) own (fun k=>if k<W.heap.size/\own k≠1/\own k≠2 then own k else H k) W w':=by
  refine⟨G.bel.os,G.bel.tape,G.bel.output,a3,fun k u J=>(hz k u (by omega)).1,fun k u J=>Kd ⟨u,by omega⟩⟩
 have J:Nf (fun k=>if k<W.heap.size/\own k≠1/\own k≠2 then own k else H k) w':=fun k u=>by
  show(if k<W.heap.size/\own k≠1/\own k≠2 then own k else H k)=0
  rw[IO (by omega)];exact G.en.nf k u
 refine⟨_,gs,qh,qw,v',csh,csw,⟨h.en.frp (by omega) J I,(F g (.inr G.lab)).trans G.lab,b1,⟨b2.1,fun k u=>(F k (.inr (b2.2 k u))).trans (b2.2 k u)⟩,G.sk.rel (fun k _ e=>(F k (.inl e)).trans e),h.rh.kept I (fun i M e=>by unfold Lr at M;omega),h.hl,h.rw.kept I (fun i M e=>by unfold Lr at M;omega),h.wl,fun b x hb=>?_⟩,I.fz (by omega)⟩;obtain⟨O,p2⟩:=h.pm b x hb;exact⟨(I.block b (ai O) (by rw[p2];omega)).trans O,(I.old b (ai O) (by rw[p2];omega)).trans p2⟩
end
section
variable {B:Nat} {w0:World} {own:Nat->Nat} {W:World} {g gs n:Nat} {p:Pr}
end
section
variable {B:Nat} {w0:World} {own:Nat->Nat} {W:World} {g gs n:Nat} {p:Pr}
end
open Go.RowKit Go.Shelf
attribute [local go_sem] Oper.semAt_some
attribute [local go_sem] Oper.semAt_some
attribute [local go_sem] Oper.semAt_some
def rY:Dc:=⟨6,bE,0,0,false⟩
theorem Fb (d:Dc):decide ((jS [rY,d]).2≠1)=rt d:=by
 have H:rt rY=true:=by decide +kernel
 have hd:0<=1+cY d.k:=by unfold cY;split;omega;split<;>omega
 have G:cH 0 0 [rY,d]=if rt d=true/\0<=1+cY d.k then cH (1+cY d.k) 2 []else some 1:=by
  have:cH 0 0 [rY,d]=if rt rY=true/\0<=0+cY rY.k then cH (0+cY rY.k) 1 [d]else some 0:=rfl
  rw[this,Kd ⟨H,by decide⟩];rfl
 have u:(jS [rY,d]).2=1↔rt d=false:=by
  rw[show jS [rY,d]=Io (cH 0 0 [rY,d])from Cj (by simp),G];cases F:rt d with
  |false=>rw[IO (by simp)];simp[Io]
  |true=>
   rw[Kd ⟨rfl,hd⟩];have:cH (1+cY d.k) 2 []=if 0<1+cY d.k then some 2 else none:=rfl
   rw[this]
   by_cases h:0<1+cY d.k
   ·rw[Kd h];simp[Io]
   ·rw[IO h];simp[Io]
 cases F:rt d with
 |false=>exact Kr (fun h=>h (u.2 F))
 |true=>exact Ku (fun h=>by rw[u.1 h]at F;cases F)
theorem Ek (w:World) (b:Nat) (d:Dc) (ht:d.t.size<=9223372036854775807) (h:w.heap[b]?=some (.cells #[.int .u8 6,.string ⟨#[]⟩,.int .i64 0,.int .i64 0,.bool false,.int .u8 d.k,.string d.t,.int .i64 d.b,.int .i64 d.i,.bool d.e] 151 (0,0))):Lay w (some ⟨b,0,none⟩) [rY,d]:=by
 intro j x u
 match j,u with
 |0,u=>cases u;exact⟨Kj _,b,0,rfl,aa h rfl,aa h rfl,aa h rfl,aa h rfl,aa h rfl⟩
 |1,u=>cases u;exact⟨ht,b,0,rfl,aa h rfl,aa h rfl,aa h rfl,aa h rfl,aa h rfl⟩
 |j+2,u=>simp at u
theorem nk (k:Int) (w:World):Kb 152 #[.int .u8 k] w fun e w'=>e=.returned (.bool (decide (k=6\/k=3)))/\w'=w:=by
 by_cases F:k=6
 ·subst F
  go_enter func152,ntmps152
  go_wp2_with fail
  go_ret
  exact⟨rfl,rfl⟩
 ·by_cases u:k=3
  ·subst u
   go_enter func152,ntmps152
   go_wp2_with fail
   go_ret
   exact⟨rfl,rfl⟩
  ·have e:decide (k=6\/k=3)=false:=Kr (by omega);rw[e];have G:(k==6)=false:=by simpa using F
   have H:(k==3)=false:=by simpa using u
   go_enter func152,ntmps152
   go_wp2_with fail
   go_ret
   exact⟨rfl,rfl⟩
theorem mJ (b:Nat) (x:Px) (w:World) (u:w.heap[b]?=some (.cells (yS x) 255 (0,0))):Kb 197 #[.pointer (some ⟨b,0,none⟩)] w fun e w'=>e=.returned (.bool (jO x.d&&!x.st))/\w'=w:=by
 have c0:w.cell? ⟨b,0,none⟩=some (.int .u8 x.d.k):=aa u rfl;have c6:w.cell? ⟨b,6,none⟩=some (.bool x.st):=aa u rfl;have F:Hid (Kb 152 #[.int .u8 x.d.k] w fun e w'=>e=.returned (.bool (jO x.d))/\w'=w):=nk x.d.k w
 generalize jO x.d=l at *
 generalize x.st=s at *
 generalize x.d.k=k at *
 clear u;cases l
 ·go_enter func197,ntmps197
  go_wp2_with(go_at_call 152;refine F.out.mono ?_;rintro e G⟨rfl,rfl⟩)
  go_ret
  exact⟨rfl,rfl⟩
 ·go_enter func197,ntmps197
  go_wp2_with(go_at_call 152;refine F.out.mono ?_;rintro e G⟨rfl,rfl⟩)
  go_ret
  exact⟨rfl,rfl⟩
theorem li (g b:Nat) (x:Px) (tot:Int) (w:World) (ht:w.cell? ⟨g,2,none⟩=some (.int .i64 tot)) (u:w.heap[b]?=some (.cells (yS x) 255 (0,0))):Kb 156 #[.pointer (some ⟨g,0,none⟩),.pointer (some ⟨b,0,none⟩)] w fun e w'=>e=.returned (.int .i64 (x.need tot))/\Kc w w':=by
 have c5:w.cell? ⟨b,5,none⟩=some (.int .i64 x.ah):=aa u rfl;have H:w.cell? ⟨b,7,none⟩=some (.int .i64 x.nd):=aa u rfl;have F:=ku (mJ b x w u);unfold Px.need
 generalize(jO x.d&&!x.st)=l at *
 generalize x.ah=a at *
 generalize x.nd=n at *
 clear u;cases l
 ·go_enter func156,ntmps156
  go_wp2_with(go_at_call 197;refine F.out.mono ?_;rintro e G⟨rfl,rfl⟩)
  go_ret
  exact⟨rfl,gt _ _⟩
 ·go_enter func156,ntmps156
  go_wp2_with(go_at_call 197;refine F.out.mono ?_;rintro e G⟨rfl,rfl⟩)
  go_quiet (fail)
  go_wp2_with fail
  go_ret
  exact⟨by rw[show wr (tot-a)=wrap64 (tot-a)from IntWalk.i64_left _];rfl,eF _ _⟩
theorem nY (d:Dc) (hd:rt d=true) (w:World) (I:ib w):Kb 150 #[d.v] w fun e w'=>e=.returned (.int .i64 ((pw d:Nat):Int))/\Below w.heap.size w w':=by
 have u:∀o,Below w.heap.size w (w.alloc o):=fun o=>(gt _ _).alloc (ge _) _
 have F:=ku u;cases iy hd with
 |text t hq=>
  have O:=(iz hq).2;have H:Hid (∀V,Kb 189 #[.string t,.string ⟨#[10]⟩] V fun e w'=>e=.returned (.bool (lC t))/\w'=V):=fun V=>Et t V
  have J:Hid (∀o,Kb 190 #[.string t] (w.alloc o) fun e w'=>e=.returned (.int .i64 (tw t))/\Kc w w'):=fun o=>by
   refine(jg t (w.alloc o) (I.below (u o)) (by omega)).mono ?_;rintro e w'⟨rfl,G⟩;exact⟨rfl,(u o).trans (G.mono (u o).size)⟩
  have G:=kK t
  have e:((pw ⟨1,t,0,0,false⟩:Nat):Int)=if lC t then 4097 else tw t:=by
   unfold pw;simp only[MG]
   split
   ·rfl
   ·omega
  rw[e]
  generalize lC t=f at *
  clear e G u I
  dsimp only[Dc.v]
  cases f
  ·go_enter func150,ntmps150
   go_wp2_with(first|(go_at_call 189;refine(H.out _).mono ?_;rintro e M⟨rfl,rfl⟩)|(go_at_call 190;refine(J.out _).mono ?_;rintro e w2⟨rfl,hb2⟩))
   go_ret
   exact⟨by simp,hb2⟩
  ·go_enter func150,ntmps150
   go_wp2_with(first|(go_at_call 189;refine(H.out _).mono ?_;rintro e M⟨rfl,rfl⟩))
   go_ret
   exact⟨by simp,F.out _⟩
 |brk m hq=>
  have e:((pw ⟨3,bE,m,0,false⟩:Nat):Int)=m:=by
   have:=kW hq;simp[pw];omega
  rw[e];clear u e
  dsimp only[Dc.v]
  go_enter func150,ntmps150
  go_wp2_with fail
  go_ret
  exact⟨rfl,F.out _⟩
 |beg m e hq=>
  have e:((pw ⟨6,bE,0,m,e⟩:Nat):Int)=0:=by simp[pw]
  rw[e];clear u e
  dsimp only[Dc.v]
  go_enter func150,ntmps150
  go_wp2_with fail
  go_ret
  exact⟨rfl,F.out _⟩
 |blank=>
  clear u
  dsimp only[Dc.v]
  go_enter func150,ntmps150
  go_wp2_with fail
  go_ret
  exact⟨rfl,F.out _⟩
 |hard=>
  clear u
  dsimp only[Dc.v]
  go_enter func150,ntmps150
  go_wp2_with fail
  go_ret
  exact⟨rfl,F.out _⟩
 |empty=>
  clear u
  dsimp only[Dc.v]
  go_enter func150,ntmps150
  go_wp2_with fail
  go_ret
  exact⟨rfl,F.out _⟩
 | «end»=>
  clear u
  dsimp only[Dc.v]
  go_enter func150,ntmps150
  go_wp2_with fail
  go_ret
  exact⟨rfl,F.out _⟩
set_option maxRecDepth 100000 in
theorem kR (d:Dc) (ht:d.t.size<=9223372036854775807) (w:World):Kb 112 #[d.v] w fun e w'=>e=.returned (.bool (rt d))/\Below w.heap.size w w':=by
 have HC:=ku fun W b (h:W.heap[b]?=some (.cells #[.int .u8 6,.string ⟨#[]⟩,.int .i64 0,.int .i64 0,.bool false,.int .u8 d.k,.string d.t,.int .i64 d.b,.int .i64 d.i,.bool d.e] 151 (0,0)))=>yN _ [rY,d] 2 W (Ek W b d ht h) (by simp)
 have e:=Fb d;rw[<-e];have hb:=Hr [rY,d]
 generalize(jS [rY,d]).1=k1 at *
 generalize(jS [rY,d]).2=k2 at *
 clear e ht;obtain⟨dk,dt,O,di,de⟩:=d
 dsimp only[Dc.v]at *
 have J:(w.alloc (.cells #[.int .u8 dk,.string dt,.int .i64 O,.int .i64 di,.bool de] 151)).heap.size=w.heap.size+1:=Eq _ _;have H:∀u F G,Below ((w.alloc u).alloc F).heap.size ((w.alloc u).alloc F) G->Below w.heap.size w G:=fun u F G h=>(((gt _ w).alloc (ge _) u).alloc (by rw[Eq];omega) F).trans (h.mono (by rw[Eq,Eq];omega))
 have M:=ku H;clear H
 go_enter func112,ntmps112
 go_wp2_with(go_at_call 149;refine(HC.out _ _ (by rw[<-J];exact am _ _)).mono ?_;rintro e G⟨rfl,I⟩)
 go_ret
 exact⟨by simp[bne,MP],M.out _ _ _ I⟩
theorem jr (g:Nat) (b:Bool) (w:World) (h:w.cell? ⟨g,0,none⟩=some (.bool b)):Kb 111 #[.pointer (some ⟨g,0,none⟩)] w fun e w'=>e=.returned (.int .i64 (if b then 4 else 0))/\w'=w:=by
 cases b
 ·go_enter func111,ntmps111
  go_wp2_with fail
  go_ret
  exact⟨rfl,rfl⟩
 ·go_enter func111,ntmps111
  go_wp2_with fail
  go_ret
  exact⟨rfl,rfl⟩
