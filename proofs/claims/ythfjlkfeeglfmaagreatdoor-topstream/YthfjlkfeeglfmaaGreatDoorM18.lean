import Derived.Test.YthfjlkfeeglfmaaGreatDoorM11
import Derived.Test.YthfjlkfeeglfmaaGreatDoorM17
set_option linter.all false
namespace Go.Proofs.YthfjlkfeeglfmaaGreatDoor.Lw
open Lx
open Go.RowKit
section
variable {N n B g gs o:Nat}{p:Pr}{w0 W:World}{k R:Int}{s:Sp}{t:List Sp}{d:Dc}
def dL.pop {hd:rG}{own:Nat->Nat}(h:dL hd B w0 own W g gs n p) {b:Bk}{r:List Bk}(S:p.ar=b :: r):∃q cap,W.cell? (Tw g 12)=some (.slice (some (Tw q 0)) (r.length+1) cap)/\r.length+1<=cap/\cap<=maxLen/\W.cell? ⟨q,r.length*3,none⟩=some (Tu b.ind)/\W.cell? ⟨q,r.length*3+1,none⟩=some (.bool b.ev)/\W.cell? ⟨q,r.length*3+2,none⟩=some (.bool b.ft)/\q≠g /\
  gY hd B w0 own W g gs n { p with bl:=b,ar:=r } ((((W.setCell ⟨g,9,none⟩ (Tu b.ind)).setCell ⟨g,10,none⟩ (.bool b.ev)).setCell ⟨g,11,none⟩ (.bool b.ft)).setCell ⟨g,12,none⟩ (.slice (some (Tw q 0)) r.length cap)):=by
 obtain⟨v,G,H,O⟩:=h.pr;rw[S]at H;obtain⟨q,cap,rfl,c1,c2,c3,c4,cur,c5⟩:=si LJ H;have Y:=aF H G (by decide);have u:q≠g:=λe=>Y (by rw[e];rfl)
 have I:=(((Kp.set W g 9 (Tu b.ind)).trans (Kp.set _ g 10 (.bool b.ev))).trans (Kp.set _ g 11 (.bool b.ft))).trans (Kp.set _ g 12 (.slice (some (Tw q 0)) r.length cap));refine⟨q,cap,aa G rfl,c1,c2,c4 0 _ rfl,c4 1 _ rfl,c4 2 _ rfl,u,own,?_⟩;refine h.turn (((((Fr.refl 2 own W).set' h.lab 9 _).set' h.lab 10 _).set' h.lab 11 _).set' h.lab 12 _) (h.en.nf.below I.size) rfl ⟨.slice (some (Tw q 0)) r.length cap,ag (ag (ag (ag G 9 _) 10 _) 11 _) 12 _,I.row c3 (λk J M=>by cases J;exact u M),λk Q=>O k (by cases Q;rfl)⟩
set_option maxHeartbeats 2000000 in
set_option maxRecDepth 100000 in
def GA {hd:rG}{own:Nat->Nat}(h:dL hd B w0 own W g gs n p) (need:Nat) {b:Bk}{r:List Bk}(S:p.ar=b :: r) (hl:r.length<=1000000000) :
  Sa 60 #[.pointer (some (Tw g 7)),.agg #[.int .u8 7,.string ⟨#[]⟩,Tu 0,Tu 0,.bool false],Tu need] W λx w'=>Uk x (.tuple #[])/\gY hd B w0 own W g gs n { p with bl:=b,ar:=r } w':=by
 have c2:=h.c2;have c3:=h.c3;have c4:=h.c4;have f2:=h.fz 9;have f3:=h.fz 10;have f4:=h.fz 11;have f5:=h.fz 12;have aa:=h.lt;obtain⟨q,cap,c5,d1,d2,Y,q1,q2,H,own',I,J,G⟩:=h.pop S;have ab:g≠q:=T5 H;have hq:q<W.heap.size:=RV _ _ Y
 have M:Hid (∀o,gY hd B w0 own W g gs n { p with bl:=b,ar:=r } (((((W.setCell ⟨g,9,none⟩ (Tu b.ind)).setCell ⟨g,10,none⟩ (.bool b.ev)).setCell ⟨g,11,none⟩ (.bool b.ft)).setCell ⟨g,12,none⟩ (.slice (some (Tw q 0)) r.length cap)).alloc o).drew):=by
  intro o;have u:=((gt _ ((((W.setCell ⟨g,9,none⟩ (Tu b.ind)).setCell ⟨g,10,none⟩ (.bool b.ev)).setCell ⟨g,11,none⟩ (.bool b.ft)).setCell ⟨g,12,none⟩ (.slice (some (Tw q 0)) r.length cap))).alloc (ge _) o).drew;exact⟨own',I.below u,J.trans G (λk Q O=>⟨u.block k Q,O⟩),PI G u.size⟩
 have Z:cap<=9223372036854775807:=d2;clear I J G h;go_enter Tryz.func60,Tryz.ntmps60;(go_wp2_with fail);go_region
 all_goals(
  (go_wp2_with fail);go_end0;exact⟨rfl,M.out _⟩)
def GD {hd:rG}{own:Nat->Nat}(h:dL hd B w0 own W g gs n p) {U:Nat}(G:Bp p U) (u:U<=2147483647) (need:Nat) (H:need<=1000000000000000) (M:n<=4096) (hl:p.ar.length<=1000000000) (d:Dc) (J:rt d=true) (O:d.k=7->p.ar≠[]) :
  Sa 60 #[.pointer (some (Tw g 7)),d.v,Tu need] W λe w'=>Uk e (.tuple #[])/\gY hd B w0 own W g gs n (put n d need p) w':=by
 cases gu J with
 |text t hq=>exact C0 h G u need t (fN hq).2
 |brk m hq=>
  obtain⟨Q,S⟩:=im hq;have:=GB h G u need H M m.toNat (by omega);rw[show((m.toNat:Nat):Int)=m by omega]at this;exact this
 |beg m e hq=>
  obtain⟨Q,S⟩:=im hq;have:=GC h G u need H M hl m.toNat (by omega) e;rw[show((m.toNat:Nat):Int)=m by omega]at this;exact this
 |blank=>exact yE h G u need
 |hard=>exact Da h G u need
 |empty=>exact yD h G u need
 | «end»=>
  cases I:p.ar with
  |nil=>exact absurd I (O rfl)
  |cons b r=>
   have:=GA h need I (by rw[I]at hl;simp at hl;omega)
   have e:put n ⟨7,bE,0,0,false⟩ need p={ p with bl:=b,ar:=r }:=by
    show({ p with bl:=p.ar.headD ⟨0,false,false⟩,ar:=p.ar.tail }:Pr)=_;rw[I];rfl
   rw[e];exact this
def fJ:Nat->Sp->List Sp->Nat
 |0,s,_=>s.all
 |m+1,s,t=>s.all+fJ m (t.headD ⟨0,0⟩) t.tail
def fI:Nat->Sp->List Sp->Nat
 |0,s,_=>s.hang
 |m+1,s,t=>s.all+fI m (t.headD ⟨0,0⟩) t.tail
def kS (m:Nat) (s:Sp) (t:List Sp) (c:Nat):min (fJ m (s.wid c) t) 4097=min (c+fJ m s t) 4097:=by
 cases m<;>simp only[fJ,Sp.wid]<;>omega
def xe (m a h u:Nat) (t:List Sp):fJ m ⟨a,h⟩ t=fJ m ⟨a,u⟩ t:=by cases m<;>rfl
def xc (m:Nat) (s:Sp) (t:List Sp) (c:Nat):min (fI m (s.wid c) t) 4097=min (c+fI m s t) 4097:=by
 cases m<;>simp only[fI,Sp.wid]<;>omega
def IL (s:Sp):Prop:=s.hang<=s.all
def IL.wid (h:IL s) (c:Nat):IL (s.wid c):=by unfold IL at *;simp only[Sp.wid];omega
def MY:IL ⟨0,0⟩:=ge _
def EE (h:∀x∈t,IL x):IL (t.headD ⟨0,0⟩):=by
 cases t with
 |nil=>exact MY
 |cons a t=>exact h a RZ
def sU:∀l,IL (aX l).2.1/\∀x∈(aX l).2.2,IL x
 |[]=>⟨MY,by simp[aX]⟩
 |d :: r=>by
  obtain⟨H,u⟩:=sU r;show IL (bL d (aX r).2).2.1/\∀x∈(bL d (aX r).2).2.2,IL x;unfold bL
  split
  ·refine⟨MY,?_⟩;intro x G
   rcases Sm.1 G with rfl|G
   ·exact H
   ·exact u x G
  ·split
   ·exact⟨(EE u).wid _,λx G=>u x (Vz G)⟩
   ·split
    ·exact⟨RU _,u⟩
    ·split
     ·exact⟨RU _,u⟩
     ·exact⟨H.wid _,u⟩
def Lo (m:Nat) (s:Sp) (t:List Sp):s.all<=fJ m s t:=by cases m<;>simp[fJ]
def dn (k:Int) (m:Nat):Nat:=if k=6 then m+1 else if k=7 then m-1 else m
def yd (u:d.k=6\/d.k=7):pw d=0:=by
 unfold pw;rw[Eq (by omega),Eq (by omega),Eq (by omega),Eq (by omega)]
def kT (d:Dc) (r:List Dc) (m:Nat) (h:d.k=7->0<m):min (fJ m (aX (d :: r)).2.1 (aX (d :: r)).2.2) 4097=min (pw d+fJ (dn d.k m) (aX r).2.1 (aX r).2.2) 4097:=by
 show min (fJ m (bL d (aX r).2).2.1 (bL d (aX r).2).2.2) 4097=_;obtain⟨s,t⟩:=(aX r).2;unfold bL dn
 by_cases u:d.k=7
 ·rw[Or u,Eq (by omega),Or u,yd (.inr u)];obtain⟨H,rfl⟩:∃H,m=H+1:=⟨m-1,by have:=h u;omega⟩;simp[fJ]
 ·by_cases G:d.k=6
  ·rw[Eq u,Or G,Or G,yd (.inl G)];simp only[fJ];rw[kS];omega
  ·rw[Eq u,Eq G,Eq G,Eq u]
   split
   ·simp only;rw[xe _ _ 0 (s.wid (pw d)).hang];exact kS m s t (pw d)
   ·split
    ·simp only;rw[xe _ _ 0 (s.wid (pw d)).hang];exact kS m s t (pw d)
    ·exact kS m s t (pw d)
def Hj (d:Dc) (r:List Dc) (h:d.k=7):fJ 0 (aX (d :: r)).2.1 (aX (d :: r)).2.2=0:=by
 show fJ 0 (bL d (aX r).2).2.1 (bL d (aX r).2).2.2=0;unfold bL;rw[Or h];rfl
def eQ (d:Dc):Prop:=d.k=3\/d.k=4\/d.k=5\/d.k=7
instance (d:Dc):Decidable (eQ d):=by unfold eQ;exact inferInstance
def tP (d:Dc) (r:List Dc) (m:Nat) (h:¬(m=0/\eQ d)):min (fI m (aX (d :: r)).2.1 (aX (d :: r)).2.2) 4097=min (pw d+fI (dn d.k m) (aX r).2.1 (aX r).2.2) 4097:=by
 show min (fI m (bL d (aX r).2).2.1 (bL d (aX r).2).2.2) 4097=_;obtain⟨s,t⟩:=(aX r).2;unfold eQ at h;unfold bL dn
 by_cases G:d.k=7
 ·rw[Or G,Eq (by omega),Or G,yd (.inr G)];obtain⟨u,rfl⟩:∃u,m=u+1:=⟨m-1,by omega⟩;simp[fI]
 ·by_cases H:d.k=6
  ·rw[Eq G,Or H,Or H,yd (.inl H)];simp only[fI];rw[xc];omega
  ·rw[Eq G,Eq H,Eq H,Eq G]
   split
   ·obtain⟨u,rfl⟩:∃u,m=u+1:=⟨m-1,by omega⟩;simp only[fI,Sp.wid];omega
   ·split
    ·obtain⟨u,rfl⟩:∃u,m=u+1:=⟨m-1,by omega⟩;simp only[fI,Sp.wid];omega
    ·exact xc m s t (pw d)
def pM (d:Dc) (r:List Dc) (h:eQ d):fI 0 (aX (d :: r)).2.1 (aX (d :: r)).2.2=0:=by
 show fI 0 (bL d (aX r).2).2.1 (bL d (aX r).2).2.2=0;unfold eQ at h;unfold bL
 by_cases u:d.k=7
 ·rw[Or u];rfl
 ·rw[Eq u,Eq (by omega)]
  split
  ·rfl
  ·rw[Or (by omega)];rfl
def xd:∀m,fI m ⟨0,0⟩ []=0
 |0=>rfl
 |m+1=>by simp only[fI,List.headD_nil,List.tail_nil,xd m]
def uX (R:Int):Nat->Nat->List Dc->Nat × Bool
 |n,_,[]=>(n,false)
 |n,dp,d :: r=>if dn d.k dp=0 then(n,true)else if R<((n+pw d:Nat):Int)then(n+pw d,true)else uX R (n+pw d) (dn d.k dp) r
def uj (R:Int):Nat->Nat->List Dc->Nat × Bool
 |n,_,[]=>(n,decide (R<(n:Int)))
 |n,dp,d :: r=>if R<(n:Int)then(n,true)else if dp=0/\eQ d then(n,true)else uj R (n+pw d) (dn d.k dp) r
def Li {dp:Nat}(h:1<=dp) (H:dn k dp≠0):dn k dp-1=dn k (dp-1)/\1<=dn k dp/\(k=7->0<dp-1):=by
 by_cases G:k=6
 ·have e:∀m,dn k m=m+1:=λm=>by unfold dn;rw[Or G]
  rw[e,e];exact⟨by omega,by omega,λu=>by omega⟩
 ·by_cases u:k=7
  ·have e:∀m,dn k m=m-1:=λm=>by unfold dn;rw[Eq G,Or u]
   rw[e]at H;rw[e,e];exact⟨rfl,by omega,λ_=>by omega⟩
  ·have e:∀m,dn k m=m:=λm=>by unfold dn;rw[Eq G,Eq u]
   rw[e,e];exact⟨rfl,h,λh=>absurd h u⟩
def ES {R:Int}(O:R<=4096) (rest:List Dc):∀(v:List Dc) (n dp:Nat),1<=dp->(uX R n dp v).2=true->(((uX R n dp v).1:Int)<=R↔((min (n+fJ (dp-1) (aX (v++rest)).2.1 (aX (v++rest)).2.2) 4097:Nat):Int)<=R)
 |[],n,dp,_,h=>by simp[uX]at h
 |d :: r,n,dp,hdp,h=>by
  rw[uX]at h ⊢
  by_cases u:dn d.k dp=0
  ·rw[Or u]at h ⊢
   have G:d.k=7/\dp=1:=by
    unfold dn at u
    split at u
    ·omega
    ·split at u
     ·rename_i G;exact⟨G,by omega⟩
     ·omega
   obtain⟨G,rfl⟩:=G;rw[R7,show 1-1=0 from rfl,Hj _ _ G];simp only;omega
  ·rw[Eq u]at h ⊢;obtain⟨I,J,M⟩:=Li hdp u;have hc:=kT d (r++rest) (dp-1) M;rw[R7]
   by_cases H:R<((n+pw d:Nat):Int)
   ·rw[Or H]at h ⊢;simp only;omega
   ·rw[Eq H]at h ⊢;have Q:=ES O rest r (n+pw d) (dn d.k dp) J h;rw[Q,I];omega
def lI {R:Int}:∀(v:List Dc) (n dp:Nat) (o:Int) (j:Nat),1<=dp->(dp:Int)<=o->bQ o j v=none->(uX R n dp v).2=true
 |[],n,dp,o,j,h1,h2,h3=>by
  simp only[bQ]at h3
  split at h3
  ·cases h3
  ·omega
 |d :: r,n,dp,o,j,h1,h2,h3=>by
  rw[uX];simp only[bQ]at h3
  split at h3
  ·by_cases u:dn d.k dp=0
   ·rw[Or u]
   ·rw[Eq u]
    split
    ·rfl
    ·refine lI r _ _ _ _ (by omega) ?_ h3;unfold dn cq at *
     split
     ·omega
     ·split
      ·rename_i G H
       rw[Eq G,Or H]at u;omega
      ·omega
  ·cases h3
def ER (H:R<=4096) (rest:List Dc):∀(v:List Dc) (n dp:Nat),(uj R n dp v).2=true->(((uj R n dp v).1:Int)<=R↔((min (n+fI dp (aX (v++rest)).2.1 (aX (v++rest)).2.2) 4097:Nat):Int)<=R)
 |[],n,dp,h=>by
  simp only[uj,So]at h ⊢;omega
 |d :: r,n,dp,h=>by
  rw[uj]at h ⊢
  by_cases G:R<(n:Int)
  ·rw[Or G]at h ⊢;simp only;omega
  ·rw[Eq G]at h ⊢
   by_cases u:dp=0/\eQ d
   ·rw[Or u]at h ⊢;obtain⟨rfl,u⟩:=u;rw[R7,pM _ _ u];simp only;omega
   ·rw[Eq u]at h ⊢;have I:=ER H rest r _ _ h;have hc:=tP d (r++rest) dp u;rw[I,R7];omega
def qJ (H:R<=4096):∀(v:List Dc) (n dp:Nat),(((uj R n dp v).1:Int)<=R↔((min (n+fI dp (aX v).2.1 (aX v).2.2) 4097:Nat):Int)<=R)
 |[],n,dp=>by
  have e:fI dp (aX []).2.1 (aX []).2.2=0:=xd dp;rw[e];simp only[uj];omega
 |d :: r,n,dp=>by
  rw[uj]
  by_cases G:R<(n:Int)
  ·rw[Or G];simp only;omega
  ·rw[Eq G]
   by_cases u:dp=0/\eQ d
   ·rw[Or u];obtain⟨rfl,u⟩:=u;rw[pM _ _ u];simp only;omega
   ·rw[Eq u];have I:=qJ H r (n+pw d) (dn d.k dp);have hc:=tP d r dp u;rw[I];omega
def lD (N:Nat) (p:Pr):List Dc->Nat × Bool
 |[]=>(0,false)
 |d :: r=>if d.k=6 then(if(N:Int)-(p.at:Nat)<0 then(0,true)else uX ((N:Int)-(p.at:Nat)) 0 1 r)else if d.k=3 then(if p.sk.fresh||p.bl.ev||p.bl.ft then(0,true)else uj ((N:Int)-(p.at:Nat)) d.b.toNat 0 r)else(0,true)
structure Ft (N:Nat) (p:Pr) (s:Sp) (t:List Sp):Prop where
 ft:∀(m:Nat) (b:Bk),(p.bl :: p.ar)[m]?=some b->b.ft=true->fJ m s t+p.at<=N
 mo:∀(m m':Nat) (b b':Bk),m'<=m->(p.bl :: p.ar)[m]?=some b->(p.bl :: p.ar)[m']?=some b'->b.ft=true->b'.ft=true
def ft0 (N:Nat) (s:Sp) (t:List Sp):Ft N pV s t:=by
 have:∀(m:Nat) (b:Bk),(pV.bl :: pV.ar)[m]?=some b->b.ft=false:=by
  intro m b h;have:b∈[pV.bl]:=SF h;simp at this;subst this;rfl
 exact⟨λm b h e=>(by rw[this m b h]at e;cases e),λm G b u _ h _ e=>(by rw[this m b h]at e;cases e)⟩
def vz {n':Nat}(h:(d.k=6->p.fits N n=p.fits N n')/\(d.k=3->(p.sk.fresh=true\/p.bl.ev=true\/p.fits N n=p.fits N n'))):put N d n p=put N d n' p:=by
 by_cases u:d.k=3
 ·have e:∀x,put N d x p=if p.brk N x then p.endl else p.hold d.b.toNat:=λx=>by unfold put;rw[Eq (by omega),Eq (by omega),Or u]
  rw[e,e]
  rcases h.2 u with I|H|O
  ·have J:p.endl=p:=by unfold Pr.endl;rw[Or I]
   have M:p.hold d.b.toNat=p:=by unfold Pr.hold;rw[Or I]
   rw[J,M];simp
  ·have:p.brk N n=p.brk N n':=by unfold Pr.brk;rw[Or H,Or H]
   rw[this]
  ·have:p.brk N n=p.brk N n':=by unfold Pr.brk;rw[O]
   rw[this]
 ·by_cases G:d.k=6
  ·have e:∀x,put N d x p={ p with ar:=p.bl :: p.ar,bl:=⟨min (p.bl.ind+d.i.toNat) 1000,d.e,p.fits N x⟩ }:=λx=>by
    unfold put;rw[Eq (by omega),Eq (by omega),Eq (by omega),Eq (by omega),Eq (by omega),Or G]
   rw[e,e,h.1 G]
  ·unfold put;simp only[Eq u,Eq G]
def wK {c:Prop} [Decidable c] (h:((n:Int)<=(N:Int)-(p.at:Nat))↔c):p.fits N n=decide c:=by
 unfold Pr.fits;rw[SZ,<-h];omega
def MV (hN:N<=4096) {p:Pr}{d:Dc}{r rest:List Dc}(hI:Ft N p (aX (d :: (r++rest))).2.1 (aX (d :: (r++rest))).2.2) (h:(lD N p (d :: r)).2=true\/(rest=[]/\∃o j,0<=o/\bQ o j (d :: r)=none)):put N d (lD N p (d :: r)).1 p=put N d (bL d (aX (r++rest)).2).1 p:=by
 have hb:=(oY (r++rest)).2.1;refine vz ⟨λG=>?_,λJ=>?_⟩
 ·have e:lD N p (d :: r)=if(N:Int)-(p.at:Nat)<0 then(0,true)else uX ((N:Int)-(p.at:Nat)) 0 1 r:=by simp only[lD,Or G]
  have en:(bL d (aX (r++rest)).2).1=(aX (r++rest)).2.1.all:=by unfold bL;rw[Eq (by omega),Or G]
  rw[en]
  by_cases Q:(N:Int)-(p.at:Nat)<0
  ·rw[e,Or Q];unfold Pr.fits;rw[SZ];simp only;omega
  ·rw[Eq Q]at e
   have ht:(uX ((N:Int)-(p.at:Nat)) 0 1 r).2=true:=by
    rcases h with h|⟨_,o,j,ho,u⟩
    ·rw[e]at h;exact h
    ·simp only[bQ]at u
     split at u
     ·have S:cq d.k=1:=by unfold cq;rw[Or G]
      rw[S]at u;exact lI r 0 1 _ _ (ge _) (by omega) u
     ·cases u
   have:=ES (R:=(N:Int)-(p.at:Nat)) (by omega) rest r 0 1 (ge _) ht;rw[e,wK this];unfold Pr.fits;rw[SZ];have aa:=hb.1;show((min (0+(aX (r++rest)).2.1.all) 4097:Nat):Int)<=_↔_;omega
 ·have e:lD N p (d :: r)=if p.sk.fresh||p.bl.ev||p.bl.ft then(0,true)else uj ((N:Int)-(p.at:Nat)) d.b.toNat 0 r:=by
   have G:¬d.k=6:=by omega
   simp only[lD,Eq G,Or J]
  have H:pw d=d.b.toNat:=by unfold pw;rw[Eq (by omega),Eq (by omega),Or J]
  have en:(bL d (aX (r++rest)).2).1=min ((aX (r++rest)).2.1.hang+d.b.toNat) 4097:=by
   unfold bL;rw[Eq (by omega),Eq (by omega),Or J,H];rfl
  by_cases u:p.sk.fresh=true
  ·exact .inl u
  by_cases M:p.bl.ev=true
  ·exact .inr (.inl M)
  refine .inr (.inr ?_);rw[en]
  by_cases ht:p.bl.ft=true
  ·rw[e,Or (by simp[ht])];have h1:=hI.ft 0 p.bl rfl ht;have Y:=kT d (r++rest) 0 (by omega);have O:dn d.k 0=0:=by unfold dn;rw[Eq (by omega),Eq (by omega)]
   rw[O,H]at Y;have h4:(aX (r++rest)).2.1.hang<=(aX (r++rest)).2.1.all:=(sU (r++rest)).1;have Z:fJ 0 (aX (r++rest)).2.1 (aX (r++rest)).2.2=(aX (r++rest)).2.1.all:=rfl;unfold Pr.fits;rw[SZ];simp only;omega
  ·rw[e,Eq (by simp[u,M,ht])]
   have I:(((uj ((N:Int)-(p.at:Nat)) d.b.toNat 0 r).1:Int)<=(N:Int)-(p.at:Nat)↔((min (d.b.toNat+fI 0 (aX (r++rest)).2.1 (aX (r++rest)).2.2) 4097:Nat):Int)<=(N:Int)-(p.at:Nat)):=by
    rcases h with h|⟨hr,_⟩
    ·rw[e,Eq (by simp[u,M,ht])]at h;exact ER (by omega) rest r _ _ h
    ·subst hr;rw[Sg];exact qJ (by omega) r _ _
   rw[wK I];unfold Pr.fits;rw[SZ];have Z:fI 0 (aX (r++rest)).2.1 (aX (r++rest)).2.2=(aX (r++rest)).2.1.hang:=rfl;omega
def Pq {t:ByteArray}(h:lQ t=false):lf t<0:=by
 unfold lf Lib.lastIndexByte
 rcases Lib.lastIdx_spec t 10 t.size with⟨u,_⟩|⟨i,H,_,G,_⟩
 ·rw[u];omega
 ·exfalso
  have I:(10:UInt8)∈t.data.toList:=by
   have e:t.data[i]! = t.data[i]:=VV t.data i H;rw[e]at G
   have:t.data[i]=10:=by
    apply VJ.1
    have:(10:UInt8).toNat=10:=rfl;omega
   rw[<-this];exact Array.getElem_mem_toList _
  unfold lQ at h;rw[R8 I]at h;cases h
def Jo {t:ByteArray}(u:0<t.size) (h:lQ t=false):(({ p with sk:=p.sk.text t,en:=false }:Pr).at)=p.at+(tw t).toNat:=by
 unfold Pr.at;show(p.sk.text t).col+(p.sk.text t).wait=_;unfold cX.text;rw[Eq (by omega)];show(kA p.sk.col p.sk.wait t).toNat+0=_;unfold kA;rw[Or (Pq h)];have:=(kf t).1;omega
def gS (p:Pr) (m:Nat):(p.hold m).at<=p.at+m/\(p.hold m).bl=p.bl/\(p.hold m).ar=p.ar:=by
 unfold Pr.hold
 split
 ·exact⟨by omega,rfl,rfl⟩
 ·refine⟨?_,rfl,rfl⟩;show p.sk.col+(p.sk.wait+m)<=p.sk.col+p.sk.wait+m;omega
def fU (p:Pr):p.endl.bl=p.bl/\p.endl.ar=p.ar:=by unfold Pr.endl;split<;>exact⟨rfl,rfl⟩
def Ft.any (h:Ft N p s t) {m:Nat}{b:Bk}(u:(p.bl :: p.ar)[m]?=some b) (G:b.ft=true):p.bl.ft=true:=
 h.mo m 0 b p.bl (RU _) u rfl G
def Ft.step {N:Nat}(hN:N<=4096) {p p':Pr}{d:Dc}{x:List Dc}(h:Ft N p (aX (d :: x)).2.1 (aX (d :: x)).2.2) (I:d.k≠6/\d.k≠7) (Q:p'.bl=p.bl) (O:p'.ar=p.ar) (J:p.bl.ft=true->p'.at<=p.at+pw d):Ft N p' (aX x).2.1 (aX x).2.2:=by
 refine⟨λm b u H=>?_,λm m' b S M u G H=>?_⟩
 ·rw[Q,O]at u;have h1:=h.ft m b u H;have Y:=kT d x m (λe=>absurd e I.2);have Z:dn d.k m=m:=by unfold dn;rw[Eq I.1,Eq I.2]
  rw[Z]at Y;have h4:=J (h.any u H);omega
 ·rw[Q,O]at u G;exact h.mo m m' b S M u G H
def N3 (M:N<=4096) {p:Pr}{d:Dc}{x:List Dc}(hd:rt d=true) (h7:d.k=7->p.ar≠[]) (h:Ft N p (aX (d :: x)).2.1 (aX (d :: x)).2.2):Ft N (put N d (bL d (aX x).2).1 p) (aX x).2.1 (aX x).2.2:=by
 have Y:=λm hm=>kT d x m hm
 have hH:=(sU x).1;have hB:=(oY x).2.1;cases gu hd with
 |text t hq=>
  refine h.step M ⟨by simp,by simp⟩ rfl rfl (λu=>?_);have S:=h.ft 0 p.bl rfl u;have I:=Y 0 (by intro e;cases e)
  by_cases hl:lQ t=true
  ·exfalso
   have:pw ⟨1,t,0,0,false⟩=4097:=by simp[pw,hl]
   rw[this]at I;omega
  ·have ab:lQ t=false:=by simpa using hl
   have:pw ⟨1,t,0,0,false⟩=(tw t).toNat:=by simp[pw,ab]
   rw[this];show(({ p with sk:=p.sk.text t,en:=false }:Pr).at)<=_;rw[Jo (by have:=(fN hq).1;omega) ab];exact ge _
 |brk m hq=>
  have e:∀n,put N ⟨3,bE,m,0,false⟩ n p=if p.brk N n then p.endl else p.hold m.toNat:=λn=>by simp[put]
  rw[e];have Q:pw ⟨3,bE,m,0,false⟩=m.toNat:=by simp[pw]
  by_cases u:p.bl.ft=true
  ·have S:=h.ft 0 p.bl rfl u;have I:=Y 0 (by intro e;cases e);rw[Q]at I;have en:(bL ⟨3,bE,m,0,false⟩ (aX x).2).1=min ((aX x).2.1.hang+m.toNat) 4097:=by simp[bL,Q,Sp.wid]
   have af:(aX x).2.1.hang<=(aX x).2.1.all:=hH;have h5:fJ 0 (aX x).2.1 (aX x).2.2=(aX x).2.1.all:=rfl;have h6:dn 3 0=0:=rfl;rw[h6]at I
   have hb:p.brk N (bL ⟨3,bE,m,0,false⟩ (aX x).2).1=false:=by
    unfold Pr.brk
    split
    ·simp[u]
    ·rw[en];unfold Pr.fits;simp;omega
   rw[hb];simp only[R5,SW];obtain⟨k1,k2,k3⟩:=gS p m.toNat;exact h.step M ⟨by simp,by simp⟩ k2 k3 (λ_=>by rw[Q];exact k1)
  ·split
   ·exact h.step M ⟨by simp,by simp⟩ (fU p).1 (fU p).2 (λO=>absurd O u)
   ·obtain⟨k1,k2,k3⟩:=gS p m.toNat;exact h.step M ⟨by simp,by simp⟩ k2 k3 (λO=>absurd O u)
 |beg m e hq=>
  have en:(bL ⟨6,bE,0,m,e⟩ (aX x).2).1=(aX x).2.1.all:=by simp[bL]
  rw[en];have ep:put N ⟨6,bE,0,m,e⟩ (aX x).2.1.all p={ p with ar:=p.bl :: p.ar,bl:=⟨min (p.bl.ind+m.toNat) 1000,e,p.fits N (aX x).2.1.all⟩ }:=by simp[put]
  rw[ep]
  have aa:∀(k:Nat) (b:Bk),(p.bl :: p.ar)[k]?=some b->b.ft=true->fJ (k+1) (aX x).2.1 (aX x).2.2+p.at<=N:=by
   intro k b G u;have S:=h.ft k b G u;have I:=Y k (by intro e;cases e);have h3:dn 6 k=k+1:=rfl;rw[h3,yd (.inl rfl)]at I;omega
  have ac:∀(k:Nat) (b:Bk),(p.bl :: p.ar)[k]?=some b->b.ft=true->p.fits N (aX x).2.1.all=true:=by
   intro k b G u;have S:=aa k b G u;have I:=Lo (k+1) (aX x).2.1 (aX x).2.2;unfold Pr.fits;exact R8 (by omega)
  refine⟨λk b G u=>?_,λk Z b b' ae G H u=>?_⟩
  ·cases k with
   |zero=>
    simp at G;subst G;have:p.fits N (aX x).2.1.all=true:=u;unfold Pr.fits at this;have:=SE this;exact this
   |succ k=>exact aa k b (by simpa using G) u
  ·cases k with
   |zero=>
    have e0:Z=0:=by omega
    subst e0;rw[G]at H;cases H;exact u
   |succ k=>
    cases Z with
    |zero=>
     simp at H;subst H;exact ac k b (by simpa using G) u
    |succ Z=>exact h.mo k Z b b' (by omega) (by simpa using G) (by simpa using H) u
 |blank=>
  have e:∀n,put N ⟨2,bE,0,0,false⟩ n p=p.hold 1:=λn=>by simp[put]
  rw[e];obtain⟨k1,k2,k3⟩:=gS p 1;have e2:pw ⟨2,bE,0,0,false⟩=1:=by simp[pw]
  exact h.step M ⟨by simp,by simp⟩ k2 k3 (λ_=>by rw[e2];exact k1)
 |hard=>
  have e:∀n,put N ⟨4,bE,0,0,false⟩ n p=p.endl:=λn=>by simp[put]
  rw[e];refine h.step M ⟨by simp,by simp⟩ (fU p).1 (fU p).2 (λu=>?_);have S:=h.ft 0 p.bl rfl u;have I:=Y 0 (by intro e;cases e);have:pw ⟨4,bE,0,0,false⟩=4097:=by simp[pw]
  rw[this]at I;omega
 |empty=>
  have e:∀n,put N ⟨5,bE,0,0,false⟩ n p=if p.en then { p with sk:=p.sk.empty,en:=false }else p:=λn=>by simp[put]
  rw[e]
  have hx:p.bl.ft=true->False:=by
   intro u;have S:=h.ft 0 p.bl rfl u;have I:=Y 0 (by intro e;cases e);have:pw ⟨5,bE,0,0,false⟩=4097:=by simp[pw]
   rw[this]at I;omega
  split
  ·exact h.step M ⟨by simp,by simp⟩ rfl rfl (λu=>(hx u).elim)
  ·exact h.step M ⟨by simp,by simp⟩ rfl rfl (λu=>(hx u).elim)
 | «end»=>
  obtain⟨b0,r0,J⟩:∃b r,p.ar=b :: r:=by
   cases ha:p.ar with
   |nil=>exact absurd ha (h7 rfl)
   |cons b r=>exact⟨b,r,rfl⟩
  have ep:∀n,put N ⟨7,bE,0,0,false⟩ n p={ p with bl:=b0,ar:=r0 }:=λn=>by simp[put,J]
  rw[ep];refine⟨λk b G u=>?_,λk Z b b' ae G H u=>?_⟩
  ·have ad:(p.bl :: p.ar)[k+1]?=some b:=by rw[J];simpa using G
   have S:=h.ft (k+1) b ad u;have I:=Y (k+1) (by intro _;omega);have h3:dn 7 (k+1)=k:=rfl;rw[h3,yd (.inr rfl)]at I;show fJ k (aX x).2.1 (aX x).2.2+p.at<=N;omega
  ·exact h.mo (k+1) (Z+1) b b' (by omega) (by rw[J];simpa using G) (by rw[J];simpa using H) u
def ti (J:N<=4096) {L:List Dc}(G:bQ 0 0 L=none):∀k,k<=L.length->Ft N (fP N L k) (aX (L.drop k)).2.1 (aX (L.drop k)).2.2
 |0,_=>by
  have:fP N L 0=pV:=by simp[fP,mU]
  rw[this];exact ft0 _ _ _
 |k+1,hk=>by
  obtain⟨d,hd⟩:∃d,L[k]?=some d:=⟨_,Pi (by omega)⟩
  have e:L.drop k=d :: L.drop (k+1):=by
   rw[Sz (by omega)];congr 1;exact(RY.1 hd).2
  have M:=ti J G k (by omega);rw[e]at M;obtain⟨m,Q,_,S⟩:=ip (n:=N) hd;have u:=oX L k;rw[e]at u
  have H:m=(bL d (aX (L.drop (k+1))).2).1:=by
   have I:((aX L).1.drop k)[0]?=some m:=by rw[Sl];simpa using Q
   rw[<-u]at I;have O:(bL d (aX (L.drop (k+1))).2).1=m:=by simpa[aX]using I
   exact O.symm
  rw[S,H];exact N3 J (jW L 0 0 G d (SF hd)) (jd G hd) M
def ng (O:N<=4096) {L:List Dc}(Q:bQ 0 0 L=none) {k:Nat}{d:Dc}{r rest:List Dc}(u:L.drop k=d :: (r++rest)) (h:(lD N (fP N L k) (d :: r)).2=true\/rest=[]):put N d (lD N (fP N L k) (d :: r)).1 (fP N L k)=fP N L (k+1)/\L.drop (k+1)=r++rest:=by
 have aa:k<L.length:=by
  rcases Uo k L.length with h|h
  ·exact h
  ·rw[S4 h]at u;cases u
 have hd:L[k]?=some d:=by
  have:(L.drop k)[0]?=some d:=by rw[u];rfl
  rw[Sl]at this;simpa using this
 have e:L.drop (k+1)=r++rest:=by
  rw[<-UP] ;rw[u];rfl
 refine⟨?_,e⟩;have G:=ti O Q k (by omega);rw[u]at G;obtain⟨m,Z,_,hp⟩:=ip (n:=N) hd;have H:=oX L k;rw[u]at H
 have I:m=(bL d (aX (r++rest)).2).1:=by
  have J:((aX L).1.drop k)[0]?=some m:=by rw[Sl];simpa using Z
  rw[<-H]at J;have Y:(bL d (aX (r++rest)).2).1=m:=by simpa[aX]using J
  exact Y.symm
 rw[hp,I];refine MV O G ?_
 rcases h with h|h
 ·exact .inl h
 ·subst h;obtain⟨o,S,_,_,M⟩:=iq (n:=N) Q k (by omega);rw[u,Sg]at M;exact .inr ⟨rfl,o,k,S,M⟩
def drn (N:Nat):Pr->List Dc->Pr × List Dc
 |p,[]=>(p,[])
 |p,d :: r=>if(lD N p (d :: r)).2=true then drn N (put N d (lD N p (d :: r)).1 p) r else(p,d :: r)
def qq (N:Nat):Pr->List Dc->Pr
 |p,[]=>p
 |p,d :: r=>qq N (put N d (lD N p (d :: r)).1 p) r
def tG (N:Nat):∀(v:List Dc) (p:Pr),∃u,v=u++(drn N p v).2
 |[],p=>⟨[],rfl⟩
 |d :: r,p=>by
  rw[drn]
  split
  ·obtain⟨u,G⟩:=tG N r (put N d (lD N p (d :: r)).1 p);exact⟨d :: u,by rw[R7,<-G]⟩
  ·exact⟨[],rfl⟩
def Ha (N:Nat) (v:List Dc) (p:Pr):(drn N p v).2.length<=v.length:=by
 obtain⟨u,G⟩:=tG N v p;have:=Sh List.length G;rw[IO]at this;omega
def G9 (u:N<=4096) {L:List Dc}(G:bQ 0 0 L=none) (rest:List Dc):∀(v:List Dc) (k:Nat),L.drop k=v++rest->(drn N (fP N L k) v).1=fP N L (k+(v.length-(drn N (fP N L k) v).2.length))
 |[],k,h=>by simp[drn]
 |d :: r,k,h=>by
  rw[drn]
  split
  ·rename_i J
   obtain⟨H,I⟩:=ng u G h (.inl J);rw[H];have M:=G9 u G rest r (k+1) I;have hl:=Ha N r (fP N L (k+1));rw[M]
   congr 1
   rw[List.length_cons];omega
  ·simp
def Ic (G:N<=4096) {L:List Dc}(H:bQ 0 0 L=none):∀(v:List Dc) (k:Nat),k<=L.length->L.drop k=v->qq N (fP N L k) v=fP N L L.length
 |[],k,hk,h=>by
  have:k=L.length:=by
   have:=Sh List.length h;rw[Sj]at this;simp at this;omega
  subst this;rfl
 |d :: r,k,hk,h=>by
  rw[qq];obtain⟨I,u⟩:=ng G H (r:=r) (rest:=[]) (by rw[Sg];exact h) (.inr rfl);rw[I];rw[Sg]at u;refine Ic G H r (k+1) ?_ u;have:=Sh List.length h;rw[Sj,List.length_cons]at this;omega
structure S9 where
 pr:Pr
 wt:List Dc
 dp:Nat
 cl:Bool
def JP:S9:=⟨pV,[],0,false⟩
def S9.put (N:Nat) (s:S9) (d:Dc):S9 × Int:=
 if s.cl=true then(s,4)else if rt d=true/\¬(d.k=7/\s.dp=0)then(⟨(drn N s.pr (s.wt++[d])).1,(drn N s.pr (s.wt++[d])).2,dn d.k s.dp,false⟩,0)else(s,70)
def S9.close (N:Nat) (s:S9):S9 × Int:=
 if s.cl=true then(s,4)else if 0<s.dp then(s,70)else(⟨qq N s.pr s.wt,[],s.dp,true⟩,0)
def S9.told (s s':S9):List UInt8:=s'.pr.sk.out.drop s.pr.sk.out.length
def mD:Int->List Dc->Option Int
 |o,[]=>some o
 |o,d :: r=>if rt d=true/\0<=o+cq d.k then mD (o+cq d.k) r else none
def kL:∀(l r:List Dc) (o o':Int) (j:Nat),mD o l=some o'->bQ o j (l++r)=bQ o' (j+l.length) r
 |[],r,o,o',j,h=>by simp only[mD,St]at h;subst h;simp
 |d :: l,r,o,o',j,h=>by
  simp only[mD]at h
  split at h
  ·rename_i hc
   rw[R7];simp only[bQ];rw[Or hc,kL l r _ o' _ h]
   congr 1
   rw[List.length_cons];omega
  ·cases h
def nE:∀(l r:List Dc) (o o':Int),mD o l=some o'->mD o (l++r)=mD o' r
 |[],r,o,o',h=>by simp only[mD,St]at h;subst h;simp
 |d :: l,r,o,o',h=>by
  simp only[mD]at h
  split at h
  ·rename_i hc
   rw[R7];simp only[mD];rw[Or hc,nE l r _ o' h]
  ·cases h
structure od (N:Nat) (l:List Dc) (s:S9):Prop where
 op:mD 0 l=some (s.dp:Int)
 cl:s.cl=false
 len:s.wt.length<=l.length
 wt:s.wt=l.drop (l.length-s.wt.length)
 pr:∀rest,bQ 0 0 (l++rest)=none->s.pr=fP N (l++rest) (l.length-s.wt.length)
def O3 (N:Nat):od N [] JP:=⟨rfl,rfl,ge _,rfl,λrest _=>by simp[fP,mU,JP]⟩
def zT (Z:N<=4096) {l:List Dc}{s:S9}(h:od N l s) {d:Dc}(hd:rt d=true/\¬(d.k=7/\s.dp=0)):(s.put N d).2=0/\od N (l++[d]) (s.put N d).1:=by
 have e:s.put N d=(⟨(drn N s.pr (s.wt++[d])).1,(drn N s.pr (s.wt++[d])).2,dn d.k s.dp,false⟩,0):=by
  unfold S9.put;rw[Eq (by rw[h.cl];simp),Or hd]
 rw[e];obtain⟨u,S⟩:=tG N (s.wt++[d]) s.pr;have I:=Ha N (s.wt++[d]) s.pr;rw[IO,SR]at I;have ab:=h.len
 have G:s.wt++[d]=(l++[d]).drop (l.length-s.wt.length):=by
  rw[SY (by omega),<-h.wt]
 refine⟨rfl,?_,rfl,?_,?_,?_⟩
 ·show mD 0 (l++[d])=some ((dn d.k s.dp:Nat):Int);rw[nE l [d] 0 _ h.op];have hk:=hd.2
  have ed:(s.dp:Int)+cq d.k=((dn d.k s.dp:Nat):Int)/\0<=(s.dp:Int)+cq d.k:=by
   unfold cq dn
   by_cases H:d.k=6
   ·simp only[Or H];omega
   ·by_cases M:d.k=7
    ·simp only[Eq H,Or M];omega
    ·simp only[Eq H,Eq M];omega
  simp only[mD];rw[Or ⟨hd.1,ed.2⟩,ed.1]
 ·show(drn N s.pr (s.wt++[d])).2.length<=(l++[d]).length;rw[IO,SR];omega
 ·show(drn N s.pr (s.wt++[d])).2=(l++[d]).drop ((l++[d]).length-(drn N s.pr (s.wt++[d])).2.length)
  have aa:u.length=s.wt.length+1-(drn N s.pr (s.wt++[d])).2.length:=by
   have:=Sh List.length S;rw[IO,IO,SR]at this;omega
  have Y:(l++[d]).length-(drn N s.pr (s.wt++[d])).2.length=(l.length-s.wt.length)+u.length:=by
   rw[IO,SR];omega
  rw[Y,<-UP,<-G]
  conv=>rhs;rw[S]
  rw[Vk]
 ·intro rest O;have J:l++[d]++rest=l++([d]++rest):=RW _ _ _;have Q:=h.pr ([d]++rest) (by rw[<-J];exact O);rw[<-J]at Q
  have pY:(l++[d]++rest).drop (l.length-s.wt.length)=(s.wt++[d])++rest:=by
   rw[SY (by rw[IO];omega),<-G]
  have:=G9 Z O rest (s.wt++[d]) (l.length-s.wt.length) pY;rw[<-Q]at this;show(drn N s.pr (s.wt++[d])).1=fP N (l++[d]++rest) ((l++[d]).length-(drn N s.pr (s.wt++[d])).2.length);rw[this]
  congr 1
  rw[IO,IO,SR];omega
def Cb (I:N<=4096) {l:List Dc}{s:S9}(h:od N l s) (H:s.dp=0):(s.close N).2=0/\(s.close N).1.pr=fP N l l.length/\(s.close N).1.wt=[]/\(s.close N).1.cl=true:=by
 have e:s.close N=(⟨qq N s.pr s.wt,[],s.dp,true⟩,0):=by
  unfold S9.close;rw[Eq (by rw[h.cl];simp),Eq (by omega)]
 rw[e];refine⟨rfl,?_,rfl,rfl⟩
 have u:bQ 0 0 l=none:=by
  have:=kL l [] 0 _ 0 h.op;rw[Sg]at this;rw[this,H];rfl
 have G:=h.pr [] (by rw[Sg];exact u);rw[Sg]at G;show qq N s.pr s.wt=_;rw[G];exact Ic I u s.wt _ (by omega) h.wt.symm
def sy (N:Nat) (d:Dc) (n:Nat) (p:Pr):p.sk.out <+: (put N d n p).sk.out:=by
 have G:∀m,(p.hold m).sk.out=p.sk.out:=λm=>by unfold Pr.hold;split<;>rfl
 have u:p.sk.out <+: p.endl.sk.out:=by
  unfold Pr.endl
  split
  ·exact Sw _
  ·exact V5 _ _
 unfold put
 split
 ·show p.sk.out <+: (p.sk.text d.t).out;unfold cX.text
  split
  ·exact Sw _
  ·exact V5 _ _
 split
 ·rw[G];exact Sw _
 split
 ·split
  ·exact u
  ·rw[G];exact Sw _
 split
 ·exact u
 split
 ·split
  ·show p.sk.out <+: p.sk.empty.out;unfold cX.empty
   split
   ·exact V5 _ _
   ·exact Sw _
  ·exact Sw _
 split
 ·exact Sw _
 split
 ·exact Sw _
 ·exact Sw _
def A8 (N:Nat):∀(v:List Dc) (p:Pr),p.sk.out <+: (drn N p v).1.sk.out
 |[],p=>Sw _
 |d :: r,p=>by
  rw[drn]
  split
  ·exact(sy N d _ p).trans (A8 N r _)
  ·exact Sw _
def Bi (N:Nat):∀(v:List Dc) (p:Pr),p.sk.out <+: (qq N p v).sk.out
 |[],p=>Sw _
 |d :: r,p=>by
  rw[qq];exact(sy N d _ p).trans (Bi N r _)
def S9.put_pre (N:Nat) (s:S9) (d:Dc):s.pr.sk.out <+: (s.put N d).1.pr.sk.out:=by
 unfold S9.put
 split
 ·exact Sw _
 ·split
  ·exact A8 N _ _
  ·exact Sw _
def S9.close_pre (N:Nat) (s:S9):s.pr.sk.out <+: (s.close N).1.pr.sk.out:=by
 unfold S9.close
 split
 ·exact Sw _
 ·split
  ·exact Sw _
  ·exact Bi N _ _
def uE {s s':S9}(h:s.pr.sk.out <+: s'.pr.sk.out):s'.pr.sk.out=s.pr.sk.out++s.told s':=by
 obtain⟨t,ht⟩:=h;unfold S9.told;rw[<-ht,Vk]
def Kd {L:List Dc}:∀k,k<=L.length->(fP N L k).sk.out <+: lq N L:=by
 intro k G;rw[<-sD]
 have:∀j,k<=j->j<=L.length->(fP N L k).sk.out <+: (fP N L j).sk.out:=by
  intro j
  induction j with
  |zero=>intro h _;have:k=0:=(by omega);subst this;exact Sw _
  |succ j ih=>
   intro H I
   by_cases u:k=j+1
   ·subst u;exact Sw _
   ·obtain⟨d,hd⟩:∃d,L[j]?=some d:=⟨_,Pi (by omega)⟩;obtain⟨m,_,_,hp⟩:=ip (n:=N) hd;rw[hp];exact(ih (by omega) (by omega)).trans (sy N d m _)
 exact this L.length G (ge _)
def JL {l:List Dc}{s:S9}(h:od N l s) (rest:List Dc) (u:bQ 0 0 (l++rest)=none):s.pr.sk.out <+: lq N (l++rest):=by
 rw[h.pr rest u];exact Kd _ (by rw[IO];omega)
def Og (h:¬(k=7/\o=0)):(o:Int)+cq k=((dn k o:Nat):Int)/\0<=(o:Int)+cq k:=by
 unfold cq dn
 by_cases u:k=6
 ·simp only[Or u];omega
 ·by_cases G:k=7
  ·simp only[Eq u,Or G];omega
  ·simp only[Eq u,Eq G];omega
def Hd (h:0<=(o:Int)+cq k):¬(k=7/\o=0):=by
 rintro⟨rfl,rfl⟩;simp[cq]at h
def vS (o:Nat) (d:Dc) (r:List Dc):mD o (d :: r)=if rt d=true/\¬(d.k=7/\o=0)then mD ((dn d.k o:Nat):Int) r else none:=by
 rw[mD]
 by_cases h:rt d=true/\¬(d.k=7/\o=0)
 ·obtain⟨G,H⟩:=Og h.2;rw[Or h,Or ⟨h.1,H⟩,G]
 ·rw[Eq h,Eq];exact λu=>h ⟨u.1,Hd u.2⟩
def wH:∀(o:Nat) (j:Nat),bQ o j (List.replicate o (dK 7))=none
 |0,j=>rfl
 |o+1,j=>by
  have e:cq (dK 7).k=-1:=rfl;rw[List.replicate_succ,bQ,e,Or ⟨by decide,by omega⟩];rw[show((o+1:Nat):Int)+-1=(o:Int)by omega];exact wH o _
end
variable {N D:Nat}{tot:Int}{v r:List Dc}{x:Dc}{hl rl:List Nat}{p:Pr}
structure Sc where
 n:Nat
 dp:Nat
 ok:Bool
def gp (s:Sc) (d:Dc):Sc:=if s.ok=true then s else if dn d.k s.dp=0 then⟨s.n,s.dp,true⟩else⟨s.n+pw d,dn d.k s.dp,false⟩
def fH (s:Sc) (d:Dc):Sc:=if s.ok=true then s else if s.dp=0/\eQ d then⟨s.n,s.dp,true⟩else⟨s.n+pw d,dn d.k s.dp,false⟩
def rT {s:Sc}(h:s.ok=true) (r:List Dc):r.foldl gp s=s:=by
 induction r with
 |nil=>rfl
 |cons d r ih=>rw[SO];have:gp s d=s:=(by unfold gp;rw[Or h]);rw[this];exact ih
def lF {s:Sc}(h:s.ok=true) (r:List Dc):r.foldl fH s=s:=by
 induction r with
 |nil=>rfl
 |cons d r ih=>rw[SO];have:fH s d=s:=(by unfold fH;rw[Or h]);rw[this];exact ih
def Ez (r:List Dc):∀s:Sc,s.n<=(r.foldl gp s).n:=by
 induction r with
 |nil=>intro s;exact ge _
 |cons d r ih=>
  intro s;rw[SO];refine PI ?_ (ih _);unfold gp
  split
  ·exact ge _
  ·split
   ·exact ge _
   ·exact Vx _ _
def Ey (r:List Dc):∀s:Sc,s.n<=(r.foldl fH s).n:=by
 induction r with
 |nil=>intro s;exact ge _
 |cons d r ih=>
  intro s;rw[SO];refine PI ?_ (ih _);unfold fH
  split
  ·exact ge _
  ·split
   ·exact ge _
   ·exact Vx _ _
def lj (l:List Dc):Nat:=(l.map pw).sum
def cD (d:Dc) (r:List Dc):lj (d :: r)=pw d+lj r:=by simp[lj]
def vy (l:List Dc) (d:Dc):lj (l++[d])=lj l+pw d:=by simp[lj]
def zQ:∀(r:List Dc) (n dp:Nat),(r.foldl gp ⟨n,dp,false⟩).ok=false->(r.foldl gp ⟨n,dp,false⟩).n=n+lj r
 |[],n,dp,_=>rfl
 |d :: r,n,dp,h=>by
  rw[SO]at h ⊢
  by_cases u:dn d.k dp=0
  ·have e:gp ⟨n,dp,false⟩ d=⟨n,dp,true⟩:=by simp[gp,u]
   rw[e,rT rfl]at h;cases h
  ·have e:gp ⟨n,dp,false⟩ d=⟨n+pw d,dn d.k dp,false⟩:=by simp[gp,u]
   rw[e]at h ⊢;rw[zQ r _ _ h,cD];omega
def zN:∀(r:List Dc) (n dp:Nat),(r.foldl fH ⟨n,dp,false⟩).ok=false->(r.foldl fH ⟨n,dp,false⟩).n=n+lj r
 |[],n,dp,_=>rfl
 |d :: r,n,dp,h=>by
  rw[SO]at h ⊢
  by_cases u:dp=0/\eQ d
  ·have e:fH ⟨n,dp,false⟩ d=⟨n,dp,true⟩:=by simp[fH,u]
   rw[e,lF rfl]at h;cases h
  ·have e:fH ⟨n,dp,false⟩ d=⟨n+pw d,dn d.k dp,false⟩:=by simp only[fH,R5,SW,Eq u]
   rw[e]at h ⊢;rw[zN r _ _ h,cD];omega
def zP:∀(r:List Dc) (n dp:Nat),(r.foldl gp ⟨n,dp,false⟩).n<=n+lj r
 |[],n,dp=>ge _
 |d :: r,n,dp=>by
  rw[SO,cD]
  by_cases u:dn d.k dp=0
  ·have e:gp ⟨n,dp,false⟩ d=⟨n,dp,true⟩:=by simp[gp,u]
   rw[e,rT rfl];exact Vx _ _
  ·have e:gp ⟨n,dp,false⟩ d=⟨n+pw d,dn d.k dp,false⟩:=by simp[gp,u]
   rw[e];have:=zP r (n+pw d) (dn d.k dp);omega
def zM:∀(r:List Dc) (n dp:Nat),(r.foldl fH ⟨n,dp,false⟩).n<=n+lj r
 |[],n,dp=>ge _
 |d :: r,n,dp=>by
  rw[SO,cD]
  by_cases u:dp=0/\eQ d
  ·have e:fH ⟨n,dp,false⟩ d=⟨n,dp,true⟩:=by simp[fH,u]
   rw[e,lF rfl];exact Vx _ _
  ·have e:fH ⟨n,dp,false⟩ d=⟨n+pw d,dn d.k dp,false⟩:=by simp only[fH,R5,SW,Eq u]
   rw[e];have:=zM r (n+pw d) (dn d.k dp);omega
def Aa (R:Int):∀(r:List Dc) (n dp:Nat),(((uX R n dp r).1:Int)<=R↔((r.foldl gp ⟨n,dp,false⟩).n:Int)<=R)
 |[],n,dp=>Iff.rfl
 |d :: r,n,dp=>by
  rw[uX,SO]
  by_cases u:dn d.k dp=0
  ·have e:gp ⟨n,dp,false⟩ d=⟨n,dp,true⟩:=by simp[gp,u]
   rw[Or u,e,rT rfl]
  ·have e:gp ⟨n,dp,false⟩ d=⟨n+pw d,dn d.k dp,false⟩:=by simp[gp,u]
   rw[Eq u,e]
   by_cases G:R<((n+pw d:Nat):Int)
   ·rw[Or G];have:=Ez r ⟨n+pw d,dn d.k dp,false⟩;simp only at this ⊢;omega
   ·rw[Eq G];exact Aa R r _ _
def sd (R:Int):∀(r:List Dc) (n dp:Nat),(n:Int)<=R->((uX R n dp r).2=true↔((r.foldl gp ⟨n,dp,false⟩).ok=true\/R<((r.foldl gp ⟨n,dp,false⟩).n:Int)))
 |[],n,dp,h=>by simp only[uX,List.foldl_nil,R5,false_or,false_iff];omega
 |d :: r,n,dp,h=>by
  rw[uX,SO]
  by_cases u:dn d.k dp=0
  ·have e:gp ⟨n,dp,false⟩ d=⟨n,dp,true⟩:=by simp[gp,u]
   rw[Or u,e,rT rfl];simp
  ·have e:gp ⟨n,dp,false⟩ d=⟨n+pw d,dn d.k dp,false⟩:=by simp[gp,u]
   rw[Eq u,e]
   by_cases G:R<((n+pw d:Nat):Int)
   ·rw[Or G];have:=Ez r ⟨n+pw d,dn d.k dp,false⟩;simp only at this;simp only[true_iff];exact .inr (by omega)
   ·rw[Eq G];exact sd R r _ _ (by omega)
def zZ (R:Int):∀(r:List Dc) (n dp:Nat),(((uj R n dp r).1:Int)<=R↔((r.foldl fH ⟨n,dp,false⟩).n:Int)<=R)
 |[],n,dp=>Iff.rfl
 |d :: r,n,dp=>by
  rw[uj,SO]
  by_cases G:R<(n:Int)
  ·rw[Or G];have:=Ey (d :: r) ⟨n,dp,false⟩;rw[SO]at this;simp only at this ⊢;omega
  ·rw[Eq G]
   by_cases u:dp=0/\eQ d
   ·have e:fH ⟨n,dp,false⟩ d=⟨n,dp,true⟩:=by simp[fH,u]
    rw[Or u,e,lF rfl]
   ·have e:fH ⟨n,dp,false⟩ d=⟨n+pw d,dn d.k dp,false⟩:=by simp only[fH,R5,SW,Eq u]
    rw[Eq u,e];exact zZ R r _ _
def zY (R:Int):∀(r:List Dc) (n dp:Nat),((uj R n dp r).2=true↔((r.foldl fH ⟨n,dp,false⟩).ok=true\/R<((r.foldl fH ⟨n,dp,false⟩).n:Int)))
 |[],n,dp=>by simp only[uj,List.foldl_nil,R5,false_or,So]
 |d :: r,n,dp=>by
  rw[uj,SO]
  by_cases G:R<(n:Int)
  ·rw[Or G];have:=Ey (d :: r) ⟨n,dp,false⟩;rw[SO]at this;simp only at this;simp only[true_iff];exact .inr (by omega)
  ·rw[Eq G]
   by_cases u:dp=0/\eQ d
   ·have e:fH ⟨n,dp,false⟩ d=⟨n,dp,true⟩:=by simp[fH,u]
    rw[Or u,e,lF rfl];simp
   ·have e:fH ⟨n,dp,false⟩ d=⟨n+pw d,dn d.k dp,false⟩:=by simp only[fH,R5,SW,Eq u]
    rw[Eq u,e];exact zY R r _ _
def sc (d:Dc) (r:List Dc):Sc:=if d.k=6 then r.foldl gp ⟨0,1,false⟩else if d.k=3 then r.foldl fH ⟨d.b.toNat,0,false⟩else⟨0,0,false⟩
def EP (d:Dc) (r:List Dc):(sc d r).n<=lj (d :: r):=by
 unfold sc;rw[cD]
 split
 ·have:=zP r 0 1;omega
 ·split
  ·rename_i G u
   have:=zM r d.b.toNat 0;have e:pw d=d.b.toNat:=by unfold pw;rw[Eq (by omega),Eq (by omega),Or u]
   omega
  ·exact RU _
def M3 (d:Dc) (r:List Dc) (H:d.k=6\/d.k=3) (h:(sc d r).ok=false):(sc d r).n=lj (d :: r):=by
 unfold sc at h ⊢;rw[cD]
 split at h
 ·rename_i u
  rw[Or u,zQ r 0 1 h,yd (.inl u)]
 ·rename_i u
  have G:d.k=3:=by omega
  rw[Eq u];rw[Or G]at h ⊢;have e:pw d=d.b.toNat:=by unfold pw;rw[Eq (by omega),Eq (by omega),Or G]
  rw[zN r _ 0 h,e]
def sZ:Nat->List Dc->Prop
 |_,[]=>False
 |dp,d :: r=>dn d.k dp=0\/sZ (dn d.k dp) r
def AP:∀(r u:List Dc) (dp:Nat),sZ dp r->sZ dp (r++u)
 |[],u,dp,h=>h.elim
 |d :: r,u,dp,h=>by
  rw[R7]
  rcases h with h|h
  ·exact .inl h
  ·exact .inr (AP r u _ h)
def AQ:∀(r:List Dc) (n dp:Nat),(r.foldl gp ⟨n,dp,false⟩).ok=true->sZ dp r
 |[],n,dp,h=>by cases h
 |d :: r,n,dp,h=>by
  rw[SO]at h
  by_cases u:dn d.k dp=0
  ·exact .inl u
  ·have e:gp ⟨n,dp,false⟩ d=⟨n+pw d,dn d.k dp,false⟩:=by simp[gp,u]
   rw[e]at h;exact .inr (AQ r _ _ h)
def Gv:∀(r:List Dc) (n dp:Nat),sZ (dp+1) r->(r.foldl fH ⟨n,dp,false⟩).ok=true
 |[],n,dp,h=>h.elim
 |d :: r,n,dp,h=>by
  rw[SO]
  by_cases H:dp=0/\eQ d
  ·have e:fH ⟨n,dp,false⟩ d=⟨n,dp,true⟩:=by simp[fH,H]
   rw[e,lF rfl]
  ·have e:fH ⟨n,dp,false⟩ d=⟨n+pw d,dn d.k dp,false⟩:=by simp only[fH,R5,SW,Eq H]
   rw[e]
   have J:d.k=7->0<dp:=λJ=>by
    rcases V6 dp with I|I
    ·exact absurd ⟨I,.inr (.inr (.inr J))⟩ H
    ·exact I
   have M:dn d.k (dp+1)=dn d.k dp+1:=by
    unfold dn
    by_cases G:d.k=6
    ·rw[Or G,Or G]
    ·rw[Eq G,Eq G]
     by_cases u:d.k=7
     ·have:=J u;rw[Or u,Or u];omega
     ·rw[Eq u,Eq u]
   rcases h with h|h
   ·omega
   ·rw[M]at h;exact Gv r _ _ h
def Fe (p:Pr) (v:List Dc):Prop:=∀(m:Nat) (b:Bk),(p.bl :: p.ar)[m]?=some b->b.ft=true->sZ (m+1) v
def fe0 (v:List Dc):Fe pV v:=by
 intro m b h e;have:b∈[pV.bl]:=SF h;simp at this;subst this;cases e
def Fe.app (h:Fe p v) (u:List Dc):Fe p (v++u):=λm b H G=>AP v u _ (h m b H G)
def Fe.same {p p':Pr}{d:Dc}{r:List Dc}(h:Fe p (d :: r)) (G:d.k≠6/\d.k≠7) (J:p'.bl=p.bl) (I:p'.ar=p.ar):Fe p' r:=by
 intro m b H M;rw[J,I]at H;have e:dn d.k (m+1)=m+1:=by unfold dn;rw[Eq G.1,Eq G.2]
 rcases h m b H M with u|u
 ·omega
 ·rw[e]at u;exact u
def yK {n:Nat}{d:Dc}(h:Fe p (d :: r)) (hd:rt d=true) (Q:d.k=7->p.ar≠[]) (O:d.k=6->p.fits N n=true->sZ 1 r):Fe (put N d n p) r:=by
 cases gu hd with
 |text t hq=>exact h.same ⟨by simp,by simp⟩ rfl rfl
 |brk m hq=>
  have e:put N ⟨3,bE,m,0,false⟩ n p=if p.brk N n then p.endl else p.hold m.toNat:=by simp[put]
  rw[e]
  split
  ·exact h.same ⟨by simp,by simp⟩ (fU p).1 (fU p).2
  ·exact h.same ⟨by simp,by simp⟩ (gS p m.toNat).2.1 (gS p m.toNat).2.2
 |beg m e hq=>
  have J:put N ⟨6,bE,0,m,e⟩ n p={ p with ar:=p.bl :: p.ar,bl:=⟨min (p.bl.ind+m.toNat) 1000,e,p.fits N n⟩ }:=by simp[put]
  rw[J];intro k b G I;cases k with
  |zero=>
   simp at G;subst G;exact O rfl I
  |succ k=>
   rcases h k b (by simpa using G) I with u|u
   ·exact absurd u (by simp[dn])
   ·exact u
 |blank=>
  have e:put N ⟨2,bE,0,0,false⟩ n p=p.hold 1:=by simp[put]
  rw[e];exact h.same ⟨by simp,by simp⟩ (gS p 1).2.1 (gS p 1).2.2
 |hard=>
  have e:put N ⟨4,bE,0,0,false⟩ n p=p.endl:=by simp[put]
  rw[e];exact h.same ⟨by simp,by simp⟩ (fU p).1 (fU p).2
 |empty=>
  have e:put N ⟨5,bE,0,0,false⟩ n p=if p.en then { p with sk:=p.sk.empty,en:=false }else p:=by simp[put]
  rw[e]
  split
  ·exact h.same ⟨by simp,by simp⟩ rfl rfl
  ·exact h.same ⟨by simp,by simp⟩ rfl rfl
 | «end»=>
  obtain⟨M,Y,H⟩:∃b r,p.ar=b :: r:=by
   cases S:p.ar with
   |nil=>exact absurd S (Q rfl)
   |cons b r=>exact⟨b,r,rfl⟩
  have J:put N ⟨7,bE,0,0,false⟩ n p={ p with bl:=M,ar:=Y }:=by simp[put,H]
  rw[J];intro k b G I
  rcases h (k+1) b (by rw[H];simpa using G) I with u|u
  ·exact absurd u (by simp[dn])
  ·exact u
def uq (N:Nat) (p:Pr) (d:Dc) (ok:Bool) (n:Nat):Bool:=!(decide (d.k=6\/d.k=3)&&!ok)||!p.fits N n||(decide (d.k=3)&&(p.sk.fresh||p.bl.ev))
def ej {n:Nat}:p.fits N n=decide ((n:Int)<=(N:Int)-(p.at:Nat)):=by
 unfold Pr.fits;rw[SZ];omega
def zJ {N:Nat}{p:Pr}{d:Dc}{r:List Dc}(h:Fe p (d :: r)):(lD N p (d :: r)).2=uq N p d (sc d r).ok (sc d r).n:=by
 unfold uq
 by_cases G:d.k=6
 ·have e:lD N p (d :: r)=if(N:Int)-(p.at:Nat)<0 then(0,true)else uX ((N:Int)-(p.at:Nat)) 0 1 r:=by simp only[lD,Or G]
  have J:sc d r=r.foldl gp ⟨0,1,false⟩:=by unfold sc;rw[Or G]
  rw[e,J,ej];have u:¬d.k=3:=by omega
  simp only[G,u]
  by_cases M:(N:Int)-(p.at:Nat)<0
  ·rw[Or M];have:¬((((r.foldl gp ⟨0,1,false⟩).n:Nat):Int)<=(N:Int)-(p.at:Nat)):=by omega
   simp[this]
  ·rw[Eq M];have:=sd ((N:Int)-(p.at:Nat)) r 0 1 (by omega);rw[Ty,this];simp
 ·by_cases u:d.k=3
  ·have e:lD N p (d :: r)=if p.sk.fresh||p.bl.ev||p.bl.ft then(0,true)else uj ((N:Int)-(p.at:Nat)) d.b.toNat 0 r:=by simp only[lD,Eq G,Or u]
   have J:sc d r=r.foldl fH ⟨d.b.toNat,0,false⟩:=by unfold sc;rw[Eq G,Or u]
   rw[e,J,ej];cases S:p.sk.fresh
   ·cases Q:p.bl.ev
    ·cases ht:p.bl.ft
     ·have:=zY ((N:Int)-(p.at:Nat)) r d.b.toNat 0;simp only[Bool.or_self,R5,SW];rw[Ty,this];simp[u]
     ·have H:=h 0 p.bl rfl ht;have I:dn d.k 1=1:=by unfold dn;rw[Eq G,Eq (by omega)]
      have O:sZ 1 r:=by
       rcases H with H|H
       ·rw[show(0:Nat)+1=1 from rfl,I]at H;omega
       ·rw[show(0:Nat)+1=1 from rfl,I]at H;exact H
      have:=Gv r d.b.toNat 0 O;simp[this]
    ·simp[u]
   ·simp[u]
  ·have e:lD N p (d :: r)=(0,true):=by simp only[lD,Eq G,Eq u]
   rw[e];simp[G,u]
def zO {rest:List Dc}:∀(v:List Dc) (n dp:Nat),(v.foldl fH ⟨n,dp,false⟩).ok=true->min (v.foldl fH ⟨n,dp,false⟩).n 4097=min (n+fI dp (aX (v++rest)).2.1 (aX (v++rest)).2.2) 4097
 |[],n,dp,h=>by cases h
 |d :: r,n,dp,h=>by
  rw[SO]at h ⊢
  by_cases u:dp=0/\eQ d
  ·have e:fH ⟨n,dp,false⟩ d=⟨n,dp,true⟩:=by simp[fH,u]
   rw[e,lF rfl];obtain⟨rfl,u⟩:=u;rw[R7,pM _ _ u,Ua]
  ·have e:fH ⟨n,dp,false⟩ d=⟨n+pw d,dn d.k dp,false⟩:=by simp only[fH,R5,SW,Eq u]
   rw[e]at h ⊢;have G:=zO (rest:=rest) r _ _ h;have hc:=tP d (r++rest) dp u;rw[G,R7];omega
def sA (hN:N<=4096) {p:Pr}{d:Dc}{r rest:List Dc}(Z:Ft N p (aX (d :: (r++rest))).2.1 (aX (d :: (r++rest))).2.2) (h:Fe p (d :: r)):put N d (sc d r).n p=put N d (lD N p (d :: r)).1 p:=by
 refine vz ⟨λu=>?_,λJ=>?_⟩
 ·have e:lD N p (d :: r)=if(N:Int)-(p.at:Nat)<0 then(0,true)else uX ((N:Int)-(p.at:Nat)) 0 1 r:=by simp only[lD,Or u]
  have I:sc d r=r.foldl gp ⟨0,1,false⟩:=by unfold sc;rw[Or u]
  rw[e,I,ej,ej,SZ]
  by_cases O:(N:Int)-(p.at:Nat)<0
  ·rw[Or O];simp only;omega
  ·rw[Eq O];exact(Aa _ r 0 1).symm
 ·have u:¬d.k=6:=by omega
  have e:lD N p (d :: r)=if p.sk.fresh||p.bl.ev||p.bl.ft then(0,true)else uj ((N:Int)-(p.at:Nat)) d.b.toNat 0 r:=by simp only[lD,Eq u,Or J]
  have I:sc d r=r.foldl fH ⟨d.b.toNat,0,false⟩:=by unfold sc;rw[Eq u,Or J]
  by_cases S:p.sk.fresh=true
  ·exact .inl S
  by_cases Q:p.bl.ev=true
  ·exact .inr (.inl Q)
  refine .inr (.inr ?_);rw[I,ej,ej,SZ]
  by_cases ht:p.bl.ft=true
  ·rw[e,Or (by simp[ht])];have G:=h 0 p.bl rfl ht;have H:dn d.k 1=1:=by unfold dn;rw[Eq u,Eq (by omega)]
   have Y:sZ 1 r:=by
    rcases G with G|G
    ·rw[show(0:Nat)+1=1 from rfl,H]at G;omega
    ·rw[show(0:Nat)+1=1 from rfl,H]at G;exact G
   have aa:=zO (rest:=rest) r d.b.toNat 0 (Gv r d.b.toNat 0 Y);have k1:=Z.ft 0 p.bl rfl ht;have k2:=kT d (r++rest) 0 (by omega);have k3:dn d.k 0=0:=by unfold dn;rw[Eq u,Eq (by omega)]
   have M:pw d=d.b.toNat:=by unfold pw;rw[Eq (by omega),Eq (by omega),Or J]
   rw[k3,M]at k2;have k4:(aX (r++rest)).2.1.hang<=(aX (r++rest)).2.1.all:=(sU (r++rest)).1;have k5:fJ 0 (aX (r++rest)).2.1 (aX (r++rest)).2.2=(aX (r++rest)).2.1.all:=rfl;have k6:fI 0 (aX (r++rest)).2.1 (aX (r++rest)).2.2=(aX (r++rest)).2.1.hang:=rfl;simp only;omega
  ·rw[e,Eq (by simp[S,Q,ht])];exact(zZ _ r _ 0).symm
abbrev wr (x:Int):Int:=IntKind.i64.wrap x
structure Px where
 d:Dc
 ah:Int
 st:Bool
 nd:Int
def mG (d:Dc):Bool:=decide (d.k=6\/d.k=3)
def Px.need (tot:Int) (x:Px):Int:=if mG x.d&&!x.st then wr (tot-x.ah)else x.nd
def Px.settle (tot:Int) (x:Px):Px:=⟨x.d,x.ah,true,x.need tot⟩
abbrev Pm:=Nat->Option Px
def gi (m:Pm) (b:Nat) (x:Px):Pm:=λk=>if k=b then some x else m k
def cH (m:Pm) (b:Nat) (x:Px):gi m b x b=some x:=Or rfl
def fX (m:Pm) {b k:Nat}(x:Px) (h:k≠b):gi m b x k=m k:=Eq h
def sett (tot e:Int):Pm->List Nat->Pm × List Nat
 |m,[]=>(m,[])
 |m,b :: r=>match m b with
  |none=>(m,b :: r)
  |some x=>if x.d.k=3 then sett tot e (gi m b (x.settle tot)) r else if e=7 then(gi m b (x.settle tot),r)else(m,b :: r)
def aV (tot e:Int) (m:Pm) (rl:List Nat):Pm × List Nat:=if e=1\/e=2\/e=6 then(m,rl)else sett tot e m rl
def gZ (N:Nat) (tot:Int) (m:Pm):Pr->List Nat->Pr × List Nat
 |p,[]=>(p,[])
 |p,b :: r=>match m b with
  |none=>(p,b :: r)
  |some x=>if uq N p x.d x.st (x.need tot).toNat=true then gZ N tot m (put N x.d (x.need tot).toNat p) r else(p,b :: r)
def HI (m:Pm) (tot:Int):List Nat->List Dc->Prop
 |[],[]=>True
 |b :: bs,d :: r=>(∃ah,m b=some ⟨d,ah,(sc d r).ok,if(sc d r).ok then((sc d r).n:Int)else 0⟩/\wr (tot-ah)=((lj (d :: r):Nat):Int))/\HI m tot bs r
 |_,_=>False
def mP:List Nat->List Dc->Nat->Dc->List Dc->Prop
 |b' :: bs,d' :: r',b,d,r=>(b'=b/\d'=d/\r'=r)\/mP bs r' b d r
 |_,_,_,_,_=>False
def HI.len {m:Pm}:∀{hl:List Nat}{v:List Dc},HI m tot hl v->hl.length=v.length
 |[],[],_=>rfl
 |b :: bs,d :: r,h=>by rw[List.length_cons,List.length_cons,h.2.len]
 |[],d :: r,h=>h.elim
 |b :: bs,[],h=>h.elim
def HI.of {m:Pm}:∀{hl:List Nat}{v:List Dc}{b:Nat}{d:Dc}{r:List Dc},HI m tot hl v->mP hl v b d r->(∃G,m b=some ⟨d,G,(sc d r).ok,if(sc d r).ok then((sc d r).n:Int)else 0⟩/\wr (tot-G)=((lj (d :: r):Nat):Int))
 |b' :: bs,d' :: r',b,d,r,h,u=>by
  rcases u with⟨rfl,rfl,rfl⟩|u
  ·exact h.1
  ·exact h.2.of u
 |[],[],_,_,_,_,u=>u.elim
 |[],_ :: _,_,_,_,_,u=>u.elim
 |_ :: _,[],_,_,_,_,u=>u.elim
def mP.mem:∀{hl:List Nat}{v:List Dc}{b:Nat}{d:Dc}{r:List Dc},mP hl v b d r->b∈hl
 |b' :: bs,d' :: r',b,d,r,u=>by
  rcases u with⟨rfl,rfl,rfl⟩|u
  ·exact RZ
  ·exact R1 _ u.mem
 |[],[],_,_,_,u=>u.elim
 |[],_ :: _,_,_,_,u=>u.elim
 |_ :: _,[],_,_,_,u=>u.elim
def mP.snoc {nb:Nat}{x:Dc}:∀{hl:List Nat}{v:List Dc}{b:Nat}{d:Dc}{r':List Dc},hl.length=v.length->mP (hl++[nb]) (v++[x]) b d r'->(∃r,r'=r++[x]/\mP hl v b d r)\/(b=nb/\d=x/\r'=[])
 |[],[],b,d,r',_,h=>by
  rcases h with⟨rfl,rfl,rfl⟩|h
  ·exact .inr ⟨rfl,rfl,rfl⟩
  ·exact h.elim
 |b' :: bs,d' :: rs,b,d,r',hl,h=>by
  rcases h with⟨rfl,rfl,h⟩|h
  ·exact .inl ⟨rs,h.symm,.inl ⟨rfl,rfl,rfl⟩⟩
  ·rcases mP.snoc (by simpa using hl) h with⟨r,u,G⟩|u
   ·exact .inl ⟨r,u,.inr G⟩
   ·exact .inr u
 |[],d' :: rs,_,_,_,hl,_=>by simp at hl
 |b' :: bs,[],_,_,_,hl,_=>by simp at hl
def nv {G:Int}{d:Dc}(h:wr (tot-G)=((lj (d :: r):Nat):Int)):Px.need tot ⟨d,G,(sc d r).ok,if(sc d r).ok then((sc d r).n:Int)else 0⟩=(((sc d r).n:Nat):Int):=by
 unfold Px.need;cases H:(sc d r).ok
 ·by_cases u:d.k=6\/d.k=3
  ·have:mG d=true:=R8 u;simp only[this,Bool.not_false,Bool.and_self,TU,h,M3 d r u H]
  ·have:mG d=false:=R9 u;have e:sc d r=⟨0,0,false⟩:=by unfold sc;rw[Eq (by omega),Eq (by omega)]
   simp[this,e]
 ·simp
def WR (m:Pm) (hl:List Nat) (v:List Dc) (D:Nat):Nat->List Nat->Prop
 |l,[]=>l=D
 |l,b :: rl=>∃x,m b=some x/\x.st=false/\((x.d.k=6/\(∀d r,mP hl v b d r->(sc d r).dp=l+1)/\WR m hl v D (l+1) rl)\/(x.d.k=3/\(∀d r,mP hl v b d r->(sc d r).dp=l)/\(∀b' r',rl=b' :: r'->∃x',m b'=some x'/\x'.d.k=6)/\WR m hl v D l rl))
structure WI (m:Pm) (tot:Int) (hl rl:List Nat) (v:List Dc) (D:Nat):Prop where
 hi:HI m tot hl v
 wr:WR m hl v D 0 rl
 cm:∀b d r,mP hl v b d r->(d.k=6\/d.k=3)->(sc d r).ok=false->b∈rl
 nh:hl.Nodup
 nw:rl.Nodup
def wi0 (tot:Int):WI (λ_=>none) tot [] [] [] 0:=⟨trivial,rfl,λ_ _ _ h=>h.elim,Vl,Vl⟩
def WR.tail {m:Pm}{J:Nat}{d0:Dc}{hl:List Nat}{v:List Dc}{D:Nat}:∀{l:Nat}{rl:List Nat},WR m (J :: hl) (d0 :: v) D l rl->WR m hl v D l rl
 |l,[],h=>h
 |l,b :: rl,h=>by
  obtain⟨x,M,O,Q⟩:=h;refine⟨x,M,O,?_⟩
  rcases Q with⟨G,H,I⟩|⟨G,H,I,S⟩
  ·exact .inl ⟨G,λd r u=>H d r (.inr u),I.tail⟩
  ·exact .inr ⟨G,λd r u=>H d r (.inr u),I,S.tail⟩
def WI.tail {m:Pm}{tot:Int}{u:Nat}{hl rl:List Nat}{d0:Dc}{v:List Dc}{D:Nat}(h:WI m tot (u :: hl) rl (d0 :: v) D):WI m tot hl rl v D:=
 ⟨h.hi.2,h.wr.tail,λb d r G H I=>h.cm b d r (.inr G) H I,(Um.1 h.nh).2,h.nw⟩
def WR.le {m:Pm}:∀{l:Nat}{rl:List Nat},WR m hl v D l rl->l<=D/\rl.length<=2*(D-l)+1/\((∀H r',rl=H :: r'->∃G,m H=some G/\G.d.k=6)->rl.length<=2*(D-l))
 |l,[],h=>by have:l=D:=h;subst this;exact⟨ge _,by simp,λ_=>by simp⟩
 |l,b :: rl,h=>by
  obtain⟨x,M,h2,O⟩:=h
  rcases O with⟨S,Y,u⟩|⟨S,Y,u,Z⟩
  ·obtain⟨I,Q,J⟩:=u.le;rw[List.length_cons];exact⟨by omega,by omega,λ_=>by omega⟩
  ·obtain⟨I,Q,J⟩:=Z.le;have:=J u;rw[List.length_cons];refine⟨I,by omega,λh=>?_⟩;obtain⟨G,e1,e2⟩:=h b rl rfl;rw[M]at e1;cases e1;omega
def WR.mem {m:Pm}:∀{l:Nat}{rl:List Nat},WR m hl v D l rl->∀b∈rl,∃x,m b=some x/\x.st=false/\(x.d.k=6\/x.d.k=3)/\∀d r,mP hl v b d r->l<=(sc d r).dp/\(x.d.k=6->l+1<=(sc d r).dp)
 |l,[],h,b,G=>nomatch G
 |l,b0 :: rl,h,b,G=>by
  obtain⟨x,O,Q,S⟩:=h
  rcases Sm.1 G with rfl|G
  ·rcases S with⟨H,I,J⟩|⟨H,I,J,Y⟩
   ·exact⟨x,O,Q,.inl H,λd r u=>by rw[I d r u];exact⟨by omega,λ_=>ge _⟩⟩
   ·exact⟨x,O,Q,.inr H,λd r u=>by rw[I d r u];exact⟨ge _,λe=>by omega⟩⟩
  ·rcases S with⟨H,I,J⟩|⟨H,I,J,Y⟩
   ·obtain⟨x',Z,e2,e3,M⟩:=J.mem b G;exact⟨x',Z,e2,e3,λd r u=>⟨by have:=(M d r u).1;omega,λe=>by have:=(M d r u).2 e;omega⟩⟩
   ·exact Y.mem b G
def sa (d:Dc) (r:List Dc) (x:Dc):sc d (r++[x])=if d.k=6 then gp (sc d r) x else if d.k=3 then fH (sc d r) x else sc d r:=by
 unfold sc
 split
 ·rw[Wf];rfl
 ·split
  ·rw[Wf];rfl
  ·rfl
def zX {d:Dc}{r:List Dc}{x:Dc}(M:d.k=6\/d.k=3) (G:(sc d r).ok=false) (J:d.k=6->dn x.k (sc d r).dp≠0) (I:d.k=3->¬((sc d r).dp=0/\eQ x)):(sc d (r++[x])).ok=false/\(sc d (r++[x])).dp=dn x.k (sc d r).dp:=by
 rw[sa]
 by_cases u:d.k=6
 ·rw[Or u];unfold gp;rw[Eq (by rw[G];simp),Eq (J u)];exact⟨rfl,rfl⟩
 ·have H:d.k=3:=by omega
  rw[Eq u,Or H];unfold fH;rw[Eq (by rw[G];simp),Eq (I H)];exact⟨rfl,rfl⟩
def EQ {d:Dc}(u:(sc d r).ok=false) (h:(d.k=6/\dn x.k (sc d r).dp=0)\/(d.k=3/\(sc d r).dp=0/\eQ x)):(sc d (r++[x])).ok=true/\(sc d (r++[x])).n=(sc d r).n:=by
 rw[sa]
 rcases h with⟨H,h⟩|⟨G,h⟩
 ·rw[Or H];unfold gp;rw[Eq (by rw[u];simp),Or h];exact⟨rfl,rfl⟩
 ·rw[Eq (by omega),Or G];unfold fH;rw[Eq (by rw[u];simp),Or h];exact⟨rfl,rfl⟩
def zW {d:Dc}(h:(sc d r).ok=true\/¬(d.k=6\/d.k=3)):sc d (r++[x])=sc d r:=by
 rw[sa]
 rcases h with h|h
 ·split
  ·unfold gp;rw[Or h]
  ·split
   ·unfold fH;rw[Or h]
   ·rfl
 ·rw[Eq (by omega),Eq (by omega)]
def tH {k:Int}{l:Nat}(h:k=7->1<=l):dn k (l+1)=dn k l+1:=by
 unfold dn
 by_cases G:k=6
 ·rw[Or G,Or G]
 ·rw[Eq G,Eq G]
  by_cases u:k=7
  ·have:=h u;rw[Or u,Or u];omega
  ·rw[Eq u,Eq u]
def WR.shift {m m':Pm}{tot:Int}{hl:List Nat}{v:List Dc}{D nb:Nat}{x:Dc}(S:HI m tot hl v):∀{l:Nat}{rl:List Nat},WR m hl v D l rl->(∀b∈rl,m' b=m b/\b≠nb)->(x.k=7->1<=l)->(eQ x->1<=l\/(∀H r',rl=H :: r'->∃M,m H=some M/\M.d.k=6))->WR m' (hl++[nb]) (v++[x]) (dn x.k D) (dn x.k l) rl
 |l,[],h,_,_,_=>by have:l=D:=h;subst this;exact rfl
 |l,b :: rl,h,hm,h7,hE=>by
  have hw:=h;obtain⟨y,h1,h2,h3⟩:=h
  have O:∀d r',mP (hl++[nb]) (v++[x]) b d r'->∃r,r'=r++[x]/\mP hl v b d r/\d=y.d/\(sc d r).ok=false:=by
   intro d r' I
   rcases mP.snoc S.len I with⟨r,G,u⟩|⟨G,_,_⟩
   ·obtain⟨ah,e3,_⟩:=S.of u;rw[h1]at e3;cases e3;exact⟨r,G,u,rfl,h2⟩
   ·exact absurd G (hm b RZ).2
  refine⟨y,(hm b RZ).1.trans h1,h2,?_⟩
  rcases h3 with⟨J,k2,k3⟩|⟨J,k2,k3,k4⟩
  ·refine .inl ⟨J,λd r' I=>?_,?_⟩
   ·obtain⟨r,rfl,u,rfl,Z⟩:=O d r' I;have hd:=k2 _ r u;have Y:=tH (k:=x.k) h7;have:=zX (x:=x) (.inl J) Z (λ_=>by rw[hd,Y];omega) (λe=>by omega);rw[this.2,hd,Y]
   ·have Y:=tH (k:=x.k) h7;rw[<-Y];exact k3.shift S (λb hb=>hm b (R1 _ hb)) (λ_=>by omega) (λ_=>.inl (by omega))
  ·have Q:eQ x->1<=l:=λe=>by
    rcases hE e with h|h
    ·exact h
    ·obtain⟨M,G,u⟩:=h b rl rfl;rw[h1]at G;cases G;omega
   refine .inr ⟨J,λd r' I=>?_,λH r' e=>?_,?_⟩
   ·obtain⟨r,rfl,u,rfl,Z⟩:=O d r' I;have hd:=k2 _ r u;have:=zX (x:=x) (.inr J) Z (λe=>by omega) (λ_=>by rw[hd];exact λh=>by have:=Q h.2;omega);rw[this.2,hd]
   ·obtain⟨M,G,u⟩:=k3 H r' e;exact⟨M,by rw[(hm H (by rw[e];exact R1 _ RZ)).1];exact G,u⟩
   ·exact k4.shift S (λb hb=>hm b (R1 _ hb)) h7 (λe=>.inl (Q e))
def HI.snoc {m m':Pm}{tot u:Int}{nb:Nat}{x:Dc}(I:m' nb=some ⟨x,tot,false,0⟩) (ht:u=wr (tot+(pw x:Nat))):∀{hl:List Nat}{v:List Dc},HI m tot hl v->lj v+pw x<4611686018427387904->(∀b d r,mP hl v b d r->∀G,m b=some ⟨d,G,(sc d r).ok,if(sc d r).ok then((sc d r).n:Int)else 0⟩->wr (tot-G)=((lj (d :: r):Nat):Int)->m' b=some ⟨d,G,(sc d (r++[x])).ok,if(sc d (r++[x])).ok then((sc d (r++[x])).n:Int)else 0⟩)->HI m' u (hl++[nb]) (v++[x])
 |[],[],_,hb,_=>by
  refine⟨⟨tot,?_,?_⟩,trivial⟩
  ·have e:(sc x []).ok=false:=by unfold sc;split;rfl;split<;>rfl
   rw[e];exact I
  ·rw[ht,cD];have:lj []=0:=rfl;rw[this]at hb ⊢;unfold wr;rw[Sn,Sn];omega
 |b :: bs,d :: r,h,hb,hA=>by
  obtain⟨⟨G,M,H⟩,O⟩:=h;rw[cD]at hb;refine⟨⟨G,hA b d r (.inl ⟨rfl,rfl,rfl⟩) G M H,?_⟩,HI.snoc I ht O (by omega) (λJ d' r' Q=>hA J d' r' (.inr Q))⟩;have e:d :: (r++[x])=(d :: r)++[x]:=rfl;show wr (u - G)=((lj (d :: (r++[x])):Nat):Int);rw[e,vy,ht];rw[cD]at H ⊢;unfold wr at H ⊢;rw[Sn]at H ⊢;rw[Sn];omega
 |[],_ :: _,h,_,_=>h.elim
 |_ :: _,[],h,_,_=>h.elim
def uR (J:N<=4096) {l:List Dc}{p:Pr}{d:Dc}{r:List Dc}{dp:Nat}(h:od N l ⟨p,d :: r,dp,false⟩) (M:(lD N p (d :: r)).2=true):od N l ⟨put N d (lD N p (d :: r)).1 p,r,dp,false⟩:=by
 have I:r.length+1<=l.length:=h.len;have u:d :: r=l.drop (l.length-(r.length+1)):=h.wt;refine⟨h.op,rfl,by show r.length<=l.length;omega,?_,?_⟩
 ·show r=l.drop (l.length-r.length);have e:l.length-r.length=(l.length-(r.length+1))+1:=by omega
  rw[e,<-UP,<-u];rfl
 ·intro rest G;have H:p=fP N (l++rest) (l.length-(r.length+1)):=h.pr rest G
  have pY:(l++rest).drop (l.length-(r.length+1))=d :: (r++rest):=by
   rw[SY (by omega),<-u];rfl
  have:=(ng J G pY (.inl (by rw[<-H];exact M))).1;rw[<-H]at this;show put N d (lD N p (d :: r)).1 p=fP N (l++rest) (l.length-r.length);rw[this]
  congr 1;omega
def EK (M:N<=4096) {l:List Dc}{p:Pr}{v:List Dc}{dp:Nat}(h:od N l ⟨p,v,dp,false⟩):∃rest,Ft N p (aX (v++rest)).2.1 (aX (v++rest)).2.2/\(∀d∈v,rt d=true)/\∀d r,v=d :: r->d.k=7->p.ar≠[]:=by
 have G:bQ 0 0 (l++List.replicate dp (dK 7))=none:=by
  rw[kL l _ 0 _ 0 h.op];exact wH _ _
 have I:v.length<=l.length:=h.len;have u:v=l.drop (l.length-v.length):=h.wt;have H:p=fP N (l++List.replicate dp (dK 7)) (l.length-v.length):=h.pr _ G
 have pY:(l++List.replicate dp (dK 7)).drop (l.length-v.length)=v++List.replicate dp (dK 7):=by
  rw[SY (by omega),<-u]
 have:=ti M G (l.length-v.length) (by rw[IO];omega);rw[<-H,pY]at this;refine⟨_,this,λd hd=>jW _ 0 0 G d (TV _ ?_),λd r O J=>?_⟩
 ·rw[u]at hd;exact List.mem_of_mem_drop hd
 ·have hd:(l++List.replicate dp (dK 7))[l.length-v.length]?=some d:=by
   have e:((l++List.replicate dp (dK 7)).drop (l.length-v.length))[0]?=some d:=by rw[pY,O];rfl
   rw[Sl]at e;simpa using e
  rw[H];exact jd G hd J
def Bs (H:N<=4096) {l:List Dc}{m:Pm}{tot:Int}{dp D:Nat}{rl:List Nat}:∀(hl:List Nat) (v:List Dc) (p:Pr),WI m tot hl rl v D->od N l ⟨p,v,dp,false⟩->Fe p v->(gZ N tot m p hl).1=(drn N p v).1/\WI m tot (gZ N tot m p hl).2 rl (drn N p v).2 D/\od N l ⟨(drn N p v).1,(drn N p v).2,dp,false⟩/\Fe (drn N p v).1 (drn N p v).2
 |[],[],p,hw,hS,hF=>⟨rfl,hw,hS,hF⟩
 |[],_ :: _,p,hw,hS,hF=>hw.hi.elim
 |_ :: _,[],p,hw,hS,hF=>hw.hi.elim
 |b :: bs,d :: r,p,hw,hS,hF=>by
  obtain⟨⟨ah,Z,h2⟩,_⟩:=hw.hi;have hn:=nv h2
  have S:gZ N tot m p (b :: bs)=if uq N p d (sc d r).ok (sc d r).n=true then gZ N tot m (put N d (sc d r).n p) bs else(p,b :: bs):=by
   rw[gZ,Z];simp only[hn,Tg]
  have Q:=zJ (N:=N) hF;obtain⟨rest,I,J,h7⟩:=EK H hS;have O:=sA H (r:=r) (rest:=rest) I hF;rw[S,drn,Q]
  by_cases hc:uq N p d (sc d r).ok (sc d r).n=true
  ·rw[Or hc,Or hc,<-O];have u:=uR H hS (Q.trans hc);rw[<-O]at u;refine Bs H bs r _ hw.tail u (yK hF (J d RZ) (h7 d r rfl) (λM G=>?_));have h3:¬d.k=3:=by omega
   unfold uq at hc;simp[G,M]at hc;have Y:sc d r=r.foldl gp ⟨0,1,false⟩:=by unfold sc;rw[Or M]
   rw[Y]at hc;exact AQ r 0 1 hc
  ·rw[Eq hc,Eq hc];exact⟨rfl,hw,hS,hF⟩
def HC (m:Pm):List Nat->List Dc->Prop
 |[],[]=>True
 |b :: bs,d :: r=>(∃ah st,m b=some ⟨d,ah,st,((sc d r).n:Int)⟩/\(mG d=true->st=true))/\HC m bs r
 |_,_=>False
def Bt (O:N<=4096) {l:List Dc}(G:bQ 0 0 l=none) {m:Pm}{tot:Int}:∀(hl:List Nat) (v:List Dc) (k:Nat),HC m hl v->k<=l.length->l.drop k=v->Fe (fP N l k) v->gZ N tot m (fP N l k) hl=(qq N (fP N l k) v,[])
 |[],[],k,_,_,_,_=>rfl
 |[],_ :: _,k,h,_,_,_=>h.elim
 |_ :: _,[],k,h,_,_,_=>h.elim
 |b :: bs,d :: r,k,h,hk,hd,hF=>by
  obtain⟨⟨Z,st,h1,Q⟩,h3⟩:=h;have M:=ti O G k hk;rw[hd]at M;have Y:=sA O (r:=r) (rest:=[]) (by rw[Sg];exact M) hF;obtain⟨e1,e2⟩:=ng O G (r:=r) (rest:=[]) (by rw[Sg];exact hd) (.inr rfl);rw[Sg]at e2
  have aa:k<l.length:=by
   rcases Uo k l.length with h|h
   ·exact h
   ·rw[S4 h]at hd;cases hd
  have hn:Px.need tot ⟨d,Z,st,((sc d r).n:Int)⟩=(((sc d r).n:Nat):Int):=by
   unfold Px.need;cases hl:mG d
   ·simp
   ·simp[Q hl]
  have hc:uq N (fP N l k) d st (sc d r).n=true:=by
   unfold uq;cases hl:mG d
   ·have:decide (d.k=6\/d.k=3)=false:=hl;rw[this];simp
   ·rw[Q hl];simp
  have e3:gZ N tot m (fP N l k) (b :: bs)=gZ N tot m (put N d (sc d r).n (fP N l k)) bs:=by
   rw[gZ,h1];simp only[hn,Tg];rw[Or hc]
  rw[e3,qq,Y,e1]
  have J:l[k]?=some d:=by
   have e:(l.drop k)[0]?=some d:=by rw[hd];rfl
   rw[Sl]at e;simpa using e
  have I:Fe (put N d (sc d r).n (fP N l k)) r:=by
   refine yK hF (jW l 0 0 G d (SF J)) (jd G J) (λS u=>?_);obtain⟨o,h0,_,_,H⟩:=iq (n:=N) G k hk;rw[hd]at H;simp only[bQ]at H
   split at H
   ·rw[show cq d.k=1 by unfold cq;rw[Or S]]at H;rw[ej,So]at u;have es:sc d r=r.foldl gp ⟨0,1,false⟩:=by unfold sc;rw[Or S]
    rw[es]at u;have c1:=lI (R:=(N:Int)-((fP N l k).at:Nat)) r 0 1 _ _ (ge _) (by omega) H
    rcases(sd ((N:Int)-((fP N l k).at:Nat)) r 0 1 (by omega)).1 c1 with c2|c2
    ·exact AQ r 0 1 c2
    ·omega
   ·cases H
  rw[Y,e1]at I;exact Bt O G bs r (k+1) h3 (by omega) e2 I
def HI.hc {m m':Pm}:∀{hl:List Nat}{v:List Dc},HI m tot hl v->(∀b d r,mP hl v b d r->∀u,m b=some ⟨d,u,(sc d r).ok,if(sc d r).ok then((sc d r).n:Int)else 0⟩->wr (tot-u)=((lj (d :: r):Nat):Int)->∃u st,m' b=some ⟨d,u,st,((sc d r).n:Int)⟩/\(mG d=true->st=true))->HC m' hl v
 |[],[],_,_=>trivial
 |b :: bs,d :: r,h,hA=>by
  obtain⟨⟨u,H,I⟩,J⟩:=h;exact⟨hA b d r (.inl ⟨rfl,rfl,rfl⟩) u H I,J.hc (λG d' r' M=>hA G d' r' (.inr M))⟩
 |[],_ :: _,h,_=>h.elim
 |_ :: _,[],h,_=>h.elim
def Qw {d:Dc}(h:¬(d.k=6\/d.k=3)):sc d r=⟨0,0,false⟩:=by unfold sc;rw[Eq (by omega),Eq (by omega)]
def WI.close {m:Pm}{tot:Int}{hl rl:List Nat}{v:List Dc}(h:WI m tot hl rl v 0):HC (sett tot 7 m rl).1 hl v/\(sett tot 7 m rl).2=[]:=by
 have u:∀(b:Nat) (d:Dc) (r:List Dc) (G:Int),m b=some ⟨d,G,(sc d r).ok,if(sc d r).ok then((sc d r).n:Int)else 0⟩->(mG d=true->(sc d r).ok=true)->∃G st,m b=some ⟨d,G,st,((sc d r).n:Int)⟩/\(mG d=true->st=true):=by
  intro b d r G H J;refine⟨G,(sc d r).ok,?_,J⟩;rw[H];cases I:(sc d r).ok
  ·have:¬(d.k=6\/d.k=3):=λM=>by
    have:=J (R8 M);rw[I]at this;cases this
   rw[Qw this];rfl
  ·rfl
 have hw:=h.wr;cases rl with
 |nil=>
  refine⟨h.hi.hc (λb d r S G H J=>?_),rfl⟩;refine u b d r G H (λM=>?_);cases I:(sc d r).ok
  ·exact nomatch h.cm b d r S (SE M) I
  ·rfl
 |cons c rest=>
  obtain⟨x,Q,e2,e3⟩:=hw
  rcases e3 with⟨k1,k2,Z⟩|⟨k1,k2,Z,k4⟩
  ·have:=Z.le.1;omega
  ·have hr:rest=[]:=by
    cases rest with
    |nil=>rfl
    |cons b' r'=>
     obtain⟨x',f1,f2⟩:=Z b' r' rfl;obtain⟨x2,g1,g2,O⟩:=k4
     rcases O with⟨_,_,O⟩|⟨O,_⟩
     ·have:=O.le.1;omega
     ·rw[f1]at g1;cases g1;omega
   subst hr
   have es:sett tot 7 m [c]=(gi m c (x.settle tot),[]):=by
    rw[sett,Q];simp only[k1,TU];rfl
   rw[es];refine⟨h.hi.hc (λb d r S G H J=>?_),rfl⟩
   by_cases Y:b=c
   ·subst Y;rw[H]at Q;cases Q;have I:(sc d r).ok=false:=e2;refine⟨G,true,(cH _ _ _).trans ?_,λ_=>rfl⟩;unfold Px.settle;rw[nv J]
   ·obtain⟨aa,st,i1,i2⟩:=u b d r G H (λM=>by
     cases I:(sc d r).ok
     ·have:=h.cm b d r S (SE M) I;simp at this;exact absurd this Y
     ·rfl)
    exact⟨aa,st,(fX _ _ Y).trans i1,i2⟩
def WR.on {m:Pm}{tot:Int}{hl:List Nat}{v:List Dc}{D:Nat}{x:Dc}(O:HI m tot hl v):∀{l:Nat}{rl:List Nat},WR m hl v D l rl->(x.k=7->1<=l)->(eQ x->1<=l\/(∀S r',rl=S :: r'->∃Q,m S=some Q/\Q.d.k=6))->∀b∈rl,∀d r,mP hl v b d r->(sc d (r++[x])).ok=false
 |l,[],h,_,_,b,G,_,_,_=>nomatch G
 |l,b0 :: rl,h,h7,hE,b,G,d,r,ha=>by
  obtain⟨y,h1,h2,h3⟩:=h
  have J:y.d.k=3->eQ x->1<=l:=λk e=>by
   rcases hE e with h|h
   ·exact h
   ·obtain⟨Q,Y,e2⟩:=h b0 rl rfl;rw[h1]at Y;cases Y;omega
  rcases Sm.1 G with rfl|G
  ·obtain⟨ah,Z,_⟩:=O.of ha;rw[h1]at Z;cases Z;have I:(sc d r).ok=false:=h2
   rcases h3 with⟨u,H,M⟩|⟨u,H,M,k4⟩
   ·have hd:=H d r ha;have hs:=tH (k:=x.k) h7;exact(zX (x:=x) (.inl u) I (λ_=>by rw[hd,hs];omega) (λe=>by have:d.k=6:=u;omega)).1
   ·have hd:=H d r ha;exact(zX (x:=x) (.inr u) I (λe=>by have:d.k=3:=u;omega) (λ_=>by rw[hd];exact λh=>by have:=J u h.2;omega)).1
  ·rcases h3 with⟨u,H,M⟩|⟨u,H,M,k4⟩
   ·exact M.on O (λ_=>by omega) (λ_=>.inl (by omega)) b G d r ha
   ·exact k4.on O h7 (λe=>.inl (J u e)) b G d r ha
def WI.sett {m:Pm}(h:WI m tot hl rl v D) {x:Dc}(hx:rt x=true) (h7:¬(x.k=7/\D=0)):∃P l,rl=P++(aV tot x.k m rl).2/\(∀b∈P,∃y,m b=some y/\y.st=false/\mG y.d=true/\(aV tot x.k m rl).1 b=some (y.settle tot)/\∀d r,mP hl v b d r->(sc d (r++[x])).ok=true/\(sc d (r++[x])).n=(sc d r).n)/\(∀b,b∉P->(aV tot x.k m rl).1 b=m b)/\WR m hl v D l (aV tot x.k m rl).2/\(x.k=7->l=1)/\(x.k≠7->l=0)/\(eQ x->1<=l\/(∀Q r',(aV tot x.k m rl).2=Q :: r'->∃S,m Q=some S/\S.d.k=6)):=by
 have hw:=h.wr;have ag:x.k=1\/x.k=2\/x.k=3\/x.k=4\/x.k=5\/x.k=6\/x.k=7:=by cases gu hx<;>simp
 by_cases hq:x.k=1\/x.k=2\/x.k=6
 ·have e:aV tot x.k m rl=(m,rl):=by unfold aV;rw[Or hq]
  rw[e];exact⟨[],0,rfl,λb u=>(nomatch u),λ_ _=>rfl,hw,λh=>by omega,λ_=>rfl,λh=>by unfold eQ at h;omega⟩
 ·have e:aV tot x.k m rl=Go.Proofs.YthfjlkfeeglfmaaGreatDoor.Lw.sett tot x.k m rl:=by unfold aV;rw[Eq hq]
  have hE:eQ x:=by unfold eQ;omega
  rw[e];clear e
  have ab:∀(b:Nat) (y:Px) (d:Dc) (r:List Dc),m b=some y->y.st=false->mP hl v b d r->d=y.d/\(sc d r).ok=false:=λb y d r H O ha=>by
   obtain⟨ah,e3,_⟩:=h.hi.of ha;rw[H]at e3;cases e3;exact⟨rfl,O⟩
  have Y:∀(I:Pm) (b:Nat) (y:Px) (G:List Nat),m b=some y->I b=m b->y.st=false->y.d.k=6->(∀d r,mP hl v b d r->(sc d r).dp=0+1)->WR m hl v D (0+1) G ->
    ∃P l,b :: G=P++(Go.Proofs.YthfjlkfeeglfmaaGreatDoor.Lw.sett tot x.k I (b :: G)).2/\(∀c∈P,c=b/\mG y.d=true/\(Go.Proofs.YthfjlkfeeglfmaaGreatDoor.Lw.sett tot x.k I (b :: G)).1 c=some (y.settle tot)/\∀d r,mP hl v c d r->(sc d (r++[x])).ok=true/\(sc d (r++[x])).n=(sc d r).n)/\(∀c,c∉P->(Go.Proofs.YthfjlkfeeglfmaaGreatDoor.Lw.sett tot x.k I (b :: G)).1 c=I c)/\WR m hl v D l (Go.Proofs.YthfjlkfeeglfmaaGreatDoor.Lw.sett tot x.k I (b :: G)).2/\(x.k=7->l=1)/\(x.k≠7->l=0)/\(1<=l\/(∀Q r',(Go.Proofs.YthfjlkfeeglfmaaGreatDoor.Lw.sett tot x.k I (b :: G)).2=Q :: r'->∃S,m Q=some S/\S.d.k=6)):=by
   intro I b y G H hm O J k2 k3;have n3:¬y.d.k=3:=by omega
   by_cases M:x.k=7
   ·have Z:Go.Proofs.YthfjlkfeeglfmaaGreatDoor.Lw.sett tot x.k I (b :: G)=(gi I b (y.settle tot),G):=by
     rw[Go.Proofs.YthfjlkfeeglfmaaGreatDoor.Lw.sett,hm,H];simp only[n3,M,TU,SW]
    rw[Z];refine⟨[b],1,rfl,λc hc=>?_,λc hc=>fX _ _ (by simpa using hc),k3,λ_=>rfl,λh=>absurd M h,.inl (ge _)⟩;obtain rfl:c=b:=by simpa using hc
    refine⟨rfl,R8 (.inl J),cH _ _ _,λd r ha=>?_⟩;obtain⟨rfl,ho⟩:=ab c y d r H O ha;refine EQ ho (.inl ⟨J,?_⟩);rw[k2 _ r ha,M];rfl
   ·have Z:Go.Proofs.YthfjlkfeeglfmaaGreatDoor.Lw.sett tot x.k I (b :: G)=(I,b :: G):=by
     rw[Go.Proofs.YthfjlkfeeglfmaaGreatDoor.Lw.sett,hm,H];simp only[n3,M,SW]
    rw[Z];exact⟨[],0,rfl,λc hc=>(nomatch hc),λ_ _=>rfl,⟨y,H,O,.inl ⟨J,k2,k3⟩⟩,λh=>absurd h M,λ_=>rfl,.inr λQ r' e=>by cases e;exact⟨y,H,J⟩⟩
  cases rl with
  |nil=>
   have hD:0=D:=hw;have Z:Go.Proofs.YthfjlkfeeglfmaaGreatDoor.Lw.sett tot x.k m []=(m,[]):=rfl;rw[Z];exact⟨[],0,rfl,λb u=>(nomatch u),λ_ _=>rfl,hw,λe=>absurd ⟨e,hD.symm⟩ h7,λ_=>rfl,λ_=>.inr λQ r' e=>by cases e⟩
  |cons c rest=>
   obtain⟨y,H,O,h3⟩:=hw
   rcases h3 with⟨J,k2,k3⟩|⟨J,k2,k3,k4⟩
   ·obtain⟨P,l,i1,i2,i3,i4,i5,i6,i7⟩:=Y m c y rest H rfl O J k2 k3;refine⟨P,l,i1,λb u=>?_,i3,i4,i5,i6,λ_=>i7⟩;obtain⟨rfl,j1,j2,j3⟩:=i2 b u;exact⟨y,H,O,j1,j2,j3⟩
   ·have Z:Go.Proofs.YthfjlkfeeglfmaaGreatDoor.Lw.sett tot x.k m (c :: rest)=Go.Proofs.YthfjlkfeeglfmaaGreatDoor.Lw.sett tot x.k (gi m c (y.settle tot)) rest:=by
     rw[Go.Proofs.YthfjlkfeeglfmaaGreatDoor.Lw.sett,H];simp only[J,TU]
    rw[Z]
    have hc:∀d r,mP hl v c d r->(sc d (r++[x])).ok=true/\(sc d (r++[x])).n=(sc d r).n:=λd r ha=>by
     obtain⟨rfl,ho⟩:=ab c y d r H O ha;exact EQ ho (.inr ⟨J,k2 _ r ha,hE⟩)
    have af:c∉rest:=(Um.1 h.nw).1;cases rest with
    |nil=>
     have hD:0=D:=k4;have ac:Go.Proofs.YthfjlkfeeglfmaaGreatDoor.Lw.sett tot x.k (gi m c (y.settle tot)) []=(gi m c (y.settle tot),[]):=rfl;rw[ac];refine⟨[c],0,rfl,λb u=>?_,λb u=>fX _ _ (by simpa using u),k4,λe=>absurd ⟨e,hD.symm⟩ h7,λ_=>rfl,λ_=>.inr λQ r' e=>by cases e⟩;obtain rfl:b=c:=by simpa using u
     exact⟨y,H,O,R8 (.inr J),cH _ _ _,hc⟩
    |cons b2 G=>
     obtain⟨S,f1,f2⟩:=k3 b2 G rfl;obtain⟨y2,g1,g2,g3⟩:=k4;rw[f1]at g1;cases g1
     rcases g3 with⟨g3,g4,g5⟩|⟨g3,_⟩
     ·have aa:b2≠c:=λe=>af (by rw[<-e];exact RZ)
      obtain⟨P,l,i1,i2,i3,i4,i5,i6,i7⟩:=Y (gi m c (y.settle tot)) b2 S G f1 (fX _ _ aa) g2 g3 g4 g5;have ae:c∉P:=λhc=>aa (i2 c hc).1.symm
      refine⟨c :: P,l,by rw[R7,<-i1],λb u=>?_,λb u=>?_,i4,i5,i6,λ_=>i7⟩
      ·rcases Sm.1 u with rfl|u
       ·exact⟨y,H,O,R8 (.inr J),by rw[i3 b ae,cH],hc⟩
       ·obtain⟨rfl,j1,j2,j3⟩:=i2 b u;exact⟨S,f1,g2,j1,j2,j3⟩
      ·rw[i3 b (λad=>u (R1 _ ad)),fX _ _ (λe=>u (by rw[e];exact RZ))]
     ·omega
def HI.mem {m:Pm}:∀{hl:List Nat}{v:List Dc},HI m tot hl v->∀b∈hl,∃y,m b=some y
 |[],[],_,b,u=>nomatch u
 |b0 :: bs,d :: r,h,b,u=>by
  obtain⟨⟨I,G,J⟩,H⟩:=h
  rcases Sm.1 u with rfl|u
  ·exact⟨_,G⟩
  ·exact H.mem b u
 |[],_ :: _,h,_,_=>h.elim
 |_ :: _,[],h,_,_=>h.elim
def WI.take {m:Pm}(h:WI m tot hl rl v D) {x:Dc}(hx:rt x=true) (h7:¬(x.k=7/\D=0)) {nb:Nat}(af:m nb=none) (G:lj v+pw x<4611686018427387904) :
  WI (gi (aV tot x.k m rl).1 nb ⟨x,tot,false,0⟩) (Go.Proofs.YthfjlkfeeglfmaaGreatDoor.Lw.wr (tot+(pw x:Nat))) (hl++[nb]) (if mG x=true then nb :: (aV tot x.k m rl).2 else(aV tot x.k m rl).2) (v++[x]) (dn x.k D):=by
 obtain⟨P,l,i1,i2,i3,i4,i5,i6,i7⟩:=h.sett hx h7;generalize ap:(aV tot x.k m rl).1=m1 at *;generalize aq:(aV tot x.k m rl).2=rl1 at *;have an:∀b∈rl1,b∈rl:=λb G=>by rw[i1];exact To _ G
 have ag:(P++rl1).Nodup:=by rw[<-i1];exact h.nw
 have ai:∀b∈rl1,b∉P:=λb G hp=>(T1.1 ag).2.2 b hp b G rfl
 have aa:∀b∈rl1,b≠nb:=λb G e=>by
  obtain⟨y,J,_⟩:=i4.mem b G;rw[e,af]at J;cases J
 have Z:∀b∈hl,b≠nb:=λb G e=>by
  obtain⟨y,J⟩:=h.hi.mem b G;rw[e,af]at J;cases J
 have ab:x.k=7->1<=l:=λe=>by rw[i5 e];exact ge _
 have ae:∀b∈rl1,gi m1 nb ⟨x,tot,false,0⟩ b=m b/\b≠nb:=λb G=>⟨by rw[fX _ _ (aa b G),i3 b (ai b G)],aa b G⟩
 have I:=i4.shift (m':=gi m1 nb ⟨x,tot,false,0⟩) (nb:=nb) (x:=x) h.hi ae ab i7;have am:=i4.on (x:=x) h.hi ab i7
 have Q:∀d r',mP (hl++[nb]) (v++[x]) nb d r'->d=x/\r'=[]:=λd r' H=>by
  rcases mP.snoc h.hi.len H with⟨r,J,O⟩|⟨_,J,O⟩
  ·exact absurd rfl (Z nb O.mem)
  ·exact⟨J,O⟩
 refine⟨?_,?_,?_,?_,?_⟩
 ·refine HI.snoc (m:=m) (cH _ _ _) rfl h.hi G (λb d r H ah h1 h2=>?_);rw[fX _ _ (Z b H.mem)]
  by_cases S:b∈P
  ·obtain⟨y,j1,j2,j3,j4,j5⟩:=i2 b S;rw[h1]at j1;cases j1;obtain⟨q1,q2⟩:=j5 d r H;have M:(sc d r).ok=false:=j2;rw[j4,q1,q2];unfold Px.settle;rw[nv h2];simp
  ·rw[i3 b S,h1]
   by_cases hs:(sc d r).ok=true\/¬(d.k=6\/d.k=3)
   ·rw[zW hs]
   ·have M:(sc d r).ok=false:=by
     cases M:(sc d r).ok
     ·rfl
     ·exact absurd (.inl M) hs
    have hk:d.k=6\/d.k=3:=Uj λhk=>hs (.inr hk)
    have u:=h.cm b d r H hk M;rw[i1]at u
    rcases Ss.1 u with u|u
    ·exact absurd u S
    ·rw[am b u d r H,M];rfl
 ·cases ad:mG x
  ·simp only[R5,SW]
   have aj:dn x.k l=0:=by
    by_cases e7:x.k=7
    ·rw[i5 e7,e7];rfl
    ·have h6:x.k≠6:=λe=>by have:=Uy ad;omega
     rw[i6 e7];unfold dn;rw[Eq h6,Eq e7]
   rw[aj]at I;exact I
  ·simp only[TU];have ak:=SE ad;have ac:l=0:=i6 (by omega)
   rcases ak with h6|h3
   ·have Y:dn x.k l=0+1:=by rw[ac,h6];rfl
    rw[Y]at I;refine⟨⟨x,tot,false,0⟩,cH _ _ _,rfl,.inl ⟨h6,λd r H=>?_,I⟩⟩;obtain⟨rfl,rfl⟩:=Q d r H;unfold sc;rw[Or h6];rfl
   ·have Y:dn x.k l=0:=by rw[ac,h3];rfl
    rw[Y]at I;refine⟨⟨x,tot,false,0⟩,cH _ _ _,rfl,.inr ⟨h3,λd r H=>?_,λb' r' e=>?_,I⟩⟩
    ·obtain⟨rfl,rfl⟩:=Q d r H;unfold sc;rw[Eq (by omega),Or h3];rfl
    ·rcases i7 (.inl h3)with h|h
     ·omega
     ·obtain⟨x',J,O⟩:=h b' r' e;exact⟨x',by rw[(ae b' (by rw[e];exact RZ)).1];exact J,O⟩
 ·intro b d r' H hk M
  rcases mP.snoc h.hi.len H with⟨r,rfl,O⟩|⟨rfl,rfl,rfl⟩
  ·have al:(sc d r).ok=false:=by
    cases h0:(sc d r).ok
    ·rfl
    ·rw[zW (.inl h0),h0]at M;cases M
   have u:=h.cm b d r O hk al;rw[i1]at u
   rcases Ss.1 u with u|u
   ·obtain⟨y,_,_,_,_,j5⟩:=i2 b u;rw[(j5 d r O).1]at M;cases M
   ·split
    ·exact R1 _ u
    ·exact u
  ·have:mG d=true:=R8 hk;rw[Or this];exact RZ
 ·rw[T1];exact⟨h.nh,Um.2 ⟨by simp,Vl⟩,λa H b G=>by rw[Uc.1 G];exact Z a H⟩
 ·have h1:rl1.Nodup:=(T1.1 ag).2.1
  split
  ·exact Um.2 ⟨λG=>aa nb G rfl,h1⟩
  ·exact h1
