import Derived.BigRegion
import Derived.ArgAppend
import Derived.Test.YtcmbkeghnmgbfaaGreatDoorM06
import Derived.Test.YtcmbkeghnmgbfaaGreatDoorM14
set_option linter.all false
namespace Go.Proofs.YtcmbkeghnmgbfaaGreatDoor.Lw
open Go.Proofs.Tryz
open Lx
open Go.RowKit
variable {T C i room front n o:Nat}{β:Type}{e:TypeId}{w:World}{sv:Value}{p:Pr}{k:Int}{t:List Sp}{d:Dc}
def eR:Nat->Sp->List Sp->Nat
 |0,s,_=>s.all
 |m+1,s,t=>s.all+eR m (t.headD ⟨0,0⟩) t.tail
def eQ:Nat->Sp->List Sp->Nat
 |0,s,_=>s.hang
 |m+1,s,t=>s.all+eQ m (t.headD ⟨0,0⟩) t.tail
theorem iN (m:Nat) (s:Sp) (t:List Sp) (c:Nat):min (eR m (s.wid c) t) 4097=min (c+eR m s t) 4097:=by
 cases m<;>simp only[eR,Sp.wid]<;>omega
theorem rM (m a h u:Nat) (t:List Sp):eR m ⟨a,h⟩ t=eR m ⟨a,u⟩ t:=by cases m<;>rfl
theorem rK (m:Nat) (s:Sp) (t:List Sp) (c:Nat):min (eQ m (s.wid c) t) 4097=min (c+eQ m s t) 4097:=by
 cases m<;>simp only[eQ,Sp.wid]<;>omega
def Cx (s:Sp):Prop:=s.hang<=s.all
theorem Cx.wid {s:Sp}(h:Cx s) (c:Nat):Cx (s.wid c):=by unfold Cx at *;simp only[Sp.wid];omega
theorem Gx:Cx ⟨0,0⟩:=ge _
theorem zI (h:∀x∈t,Cx x):Cx (t.headD ⟨0,0⟩):=by
 cases t with
 |nil=>exact Gx
 |cons a t=>exact h a Ko
theorem oC:∀l,Cx (bm l).2.1/\∀x∈(bm l).2.2,Cx x
 |[]=>⟨Gx,by simp[bm]⟩
 |d :: r=>by
  obtain⟨G,u⟩:=oC r;show Cx (cf d (bm r).2).2.1/\∀x∈(cf d (bm r).2).2.2,Cx x;unfold cf
  split
  ·refine⟨Gx,?_⟩;intro x F
   rcases KL.1 F with rfl|F
   ·exact G
   ·exact u x F
  ·split
   ·exact⟨(zI u).wid _,fun x F=>u x (NX F)⟩
   ·split
    ·exact⟨Kj _,u⟩
    ·split
     ·exact⟨Kj _,u⟩
     ·exact⟨G.wid _,u⟩
theorem EV (m:Nat) (s:Sp) (t:List Sp):s.all<=eR m s t:=by cases m<;>simp[eR]
def dn (k:Int) (m:Nat):Nat:=if k=6 then m+1 else if k=7 then m-1 else m
theorem sZ (u:d.k=6\/d.k=7):pw d=0:=by
 unfold pw;rw[IO (by omega),IO (by omega),IO (by omega),IO (by omega)]
theorem iO (d:Dc) (r:List Dc) (m:Nat) (h:d.k=7->0<m):min (eR m (bm (d :: r)).2.1 (bm (d :: r)).2.2) 4097=min (pw d+eR (dn d.k m) (bm r).2.1 (bm r).2.2) 4097:=by
 show min (eR m (cf d (bm r).2).2.1 (cf d (bm r).2).2.2) 4097=_
 obtain⟨s,t⟩:=(bm r).2;unfold cf dn
 by_cases u:d.k=7
 ·rw[Kd u,IO (by omega),Kd u,sZ (.inr u)];obtain⟨G,rfl⟩:∃G,m=G+1:=⟨m-1,by have:=h u;omega⟩;simp[eR]
 ·by_cases F:d.k=6
  ·rw[IO u,Kd F,Kd F,sZ (.inl F)];simp only[eR];rw[iN];omega
  ·rw[IO u,IO F,IO F,IO u]
   split
   ·simp only;rw[rM _ _ 0 (s.wid (pw d)).hang];exact iN m s t (pw d)
   ·split
    ·simp only;rw[rM _ _ 0 (s.wid (pw d)).hang];exact iN m s t (pw d)
    ·exact iN m s t (pw d)
theorem B6 (d:Dc) (r:List Dc) (h:d.k=7):eR 0 (bm (d :: r)).2.1 (bm (d :: r)).2.2=0:=by
 show eR 0 (cf d (bm r).2).2.1 (cf d (bm r).2).2.2=0
 unfold cf;rw[Kd h];rfl
def dN (d:Dc):Prop:=d.k=3\/d.k=4\/d.k=5\/d.k=7
instance (d:Dc):Decidable (dN d):=by unfold dN;exact inferInstance
theorem oZ (d:Dc) (r:List Dc) (m:Nat) (h:¬(m=0/\dN d)):min (eQ m (bm (d :: r)).2.1 (bm (d :: r)).2.2) 4097=min (pw d+eQ (dn d.k m) (bm r).2.1 (bm r).2.2) 4097:=by
 show min (eQ m (cf d (bm r).2).2.1 (cf d (bm r).2).2.2) 4097=_
 obtain⟨s,t⟩:=(bm r).2;unfold dN at h;unfold cf dn
 by_cases F:d.k=7
 ·rw[Kd F,IO (by omega),Kd F,sZ (.inr F)];obtain⟨u,rfl⟩:∃u,m=u+1:=⟨m-1,by omega⟩;simp[eQ]
 ·by_cases G:d.k=6
  ·rw[IO F,Kd G,Kd G,sZ (.inl G)];simp only[eQ];rw[rK];omega
  ·rw[IO F,IO G,IO G,IO F]
   split
   ·obtain⟨u,rfl⟩:∃u,m=u+1:=⟨m-1,by omega⟩;simp only[eQ,Sp.wid];omega
   ·split
    ·obtain⟨u,rfl⟩:∃u,m=u+1:=⟨m-1,by omega⟩;simp only[eQ,Sp.wid];omega
    ·exact rK m s t (pw d)
theorem lN (d:Dc) (r:List Dc) (h:dN d):eQ 0 (bm (d :: r)).2.1 (bm (d :: r)).2.2=0:=by
 show eQ 0 (cf d (bm r).2).2.1 (cf d (bm r).2).2.2=0
 unfold dN at h;unfold cf
 by_cases u:d.k=7
 ·rw[Kd u];rfl
 ·rw[IO u,IO (by omega)]
  split
  ·rfl
  ·rw[Kd (by omega)];rfl
theorem rL:∀m,eQ m ⟨0,0⟩ []=0
 |0=>rfl
 |m+1=>by simp only[eQ,List.headD_nil,List.tail_nil,rL m]
def qi (R:Int):Nat->Nat->List Dc->Nat × Bool
 |n,_,[]=>(n,false)
 |n,dp,d :: r=>if dn d.k dp=0 then(n,true)else if R<((n+pw d:Nat):Int)then(n+pw d,true)else qi R (n+pw d) (dn d.k dp) r
def py (R:Int):Nat->Nat->List Dc->Nat × Bool
 |n,_,[]=>(n,decide (R<(n:Int)))
 |n,dp,d :: r=>if R<(n:Int)then(n,true)else if dp=0/\dN d then(n,true)else py R (n+pw d) (dn d.k dp) r
theorem ER {dp:Nat}(h:1<=dp) (G:dn k dp≠0):dn k dp-1=dn k (dp-1)/\1<=dn k dp/\(k=7->0<dp-1):=by
 by_cases F:k=6
 ·have e:∀m,dn k m=m+1:=fun m=>by unfold dn;rw[Kd F]
  rw[e,e];exact⟨by omega,by omega,fun u=>by omega⟩
 ·by_cases u:k=7
  ·have e:∀m,dn k m=m-1:=fun m=>by unfold dn;rw[IO F,Kd u]
   rw[e]at G;rw[e,e];exact⟨rfl,by omega,fun _=>by omega⟩
  ·have e:∀m,dn k m=m:=fun m=>by unfold dn;rw[IO F,IO u]
   rw[e,e];exact⟨rfl,h,fun h=>absurd h u⟩
theorem zU {R:Int}(M:R<=4096) (rest:List Dc):∀(v:List Dc) (n dp:Nat),1<=dp->(qi R n dp v).2=true->(((qi R n dp v).1:Int)<=R↔((min (n+eR (dp-1) (bm (v++rest)).2.1 (bm (v++rest)).2.2) 4097:Nat):Int)<=R)
 |[],n,dp,_,h=>by simp[qi]at h
 |d :: r,n,dp,hdp,h=>by
  rw[qi]at h ⊢
  by_cases u:dn d.k dp=0
  ·rw[Kd u]at h ⊢
   have F:d.k=7/\dp=1:=by
    unfold dn at u
    split at u
    ·omega
    ·split at u
     ·rename_i F;exact⟨F,by omega⟩
     ·omega
   obtain⟨F,rfl⟩:=F;rw[KF,show 1-1=0 from rfl,B6 _ _ F];simp only;omega
  ·rw[IO u]at h ⊢;obtain⟨H,I,J⟩:=ER hdp u;have hc:=iO d (r++rest) (dp-1) J;rw[KF]
   by_cases G:R<((n+pw d:Nat):Int)
   ·rw[Kd G]at h ⊢;simp only;omega
   ·rw[IO G]at h ⊢;have O:=zU M rest r (n+pw d) (dn d.k dp) I h;rw[O,H];omega
theorem jo {R:Int}:∀(v:List Dc) (n dp:Nat) (o:Int) (j:Nat),1<=dp->(dp:Int)<=o->cH o j v=none->(qi R n dp v).2=true
 |[],n,dp,o,j,h1,h2,h3=>by
  simp only[cH]at h3
  split at h3
  ·cases h3
  ·omega
 |d :: r,n,dp,o,j,h1,h2,h3=>by
  rw[qi];simp only[cH]at h3
  split at h3
  ·by_cases u:dn d.k dp=0
   ·rw[Kd u]
   ·rw[IO u]
    split
    ·rfl
    ·refine jo r _ _ _ _ (by omega) ?_ h3;unfold dn cY at *
     split
     ·omega
     ·split
      ·rename_i F G
       rw[IO F,Kd G]at u;omega
      ·omega
  ·cases h3
theorem zT {R:Int}(G:R<=4096) (rest:List Dc):∀(v:List Dc) (n dp:Nat),(py R n dp v).2=true->(((py R n dp v).1:Int)<=R↔((min (n+eQ dp (bm (v++rest)).2.1 (bm (v++rest)).2.2) 4097:Nat):Int)<=R)
 |[],n,dp,h=>by
  simp only[py,KJ]at h ⊢;omega
 |d :: r,n,dp,h=>by
  rw[py]at h ⊢
  by_cases F:R<(n:Int)
  ·rw[Kd F]at h ⊢;simp only;omega
  ·rw[IO F]at h ⊢
   by_cases u:dp=0/\dN d
   ·rw[Kd u]at h ⊢;obtain⟨rfl,u⟩:=u;rw[KF,lN _ _ u];simp only;omega
   ·rw[IO u]at h ⊢;have H:=zT G rest r _ _ h;have hc:=oZ d (r++rest) dp u;rw[H,KF];omega
theorem mS {R:Int}(G:R<=4096):∀(v:List Dc) (n dp:Nat),(((py R n dp v).1:Int)<=R↔((min (n+eQ dp (bm v).2.1 (bm v).2.2) 4097:Nat):Int)<=R)
 |[],n,dp=>by
  have e:eQ dp (bm []).2.1 (bm []).2.2=0:=rL dp;rw[e];simp only[py];omega
 |d :: r,n,dp=>by
  rw[py]
  by_cases F:R<(n:Int)
  ·rw[Kd F];simp only;omega
  ·rw[IO F]
   by_cases u:dp=0/\dN d
   ·rw[Kd u];obtain⟨rfl,u⟩:=u;rw[lN _ _ u];simp only;omega
   ·rw[IO u];have H:=mS G r (n+pw d) (dn d.k dp);have hc:=oZ d r dp u;rw[H];omega
def jl (N:Nat) (p:Pr):List Dc->Nat × Bool
 |[]=>(0,false)
 |d :: r=>if d.k=6 then(if(N:Int)-(p.at:Nat)<0 then(0,true)else qi ((N:Int)-(p.at:Nat)) 0 1 r)else if d.k=3 then(if p.sk.fresh||p.bl.ev||p.bl.ft then(0,true)else py ((N:Int)-(p.at:Nat)) d.b.toNat 0 r)else(0,true)
structure Ft (N:Nat) (p:Pr) (s:Sp) (t:List Sp):Prop where
 ft:∀(m:Nat) (b:Bk),(p.bl :: p.ar)[m]?=some b->b.ft=true->eR m s t+p.at<=N
 mo:∀(m m':Nat) (b b':Bk),m'<=m->(p.bl :: p.ar)[m]?=some b->(p.bl :: p.ar)[m']?=some b'->b.ft=true->b'.ft=true
theorem ft0 (N:Nat) (s:Sp) (t:List Sp):Ft N qD s t:=by
 have:∀(m:Nat) (b:Bk),(qD.bl :: qD.ar)[m]?=some b->b.ft=false:=by
  intro m b h;have:b∈[qD.bl]:=LF h;simp at this;subst this;rfl
 exact⟨fun m b h e=>(by rw[this m b h]at e;cases e),fun m F b u _ h _ e=>(by rw[this m b h]at e;cases e)⟩
theorem qu {N n':Nat}(h:(d.k=6->p.fits N n=p.fits N n')/\(d.k=3->(p.sk.fresh=true\/p.bl.ev=true\/p.fits N n=p.fits N n'))):put N d n p=put N d n' p:=by
 by_cases u:d.k=3
 ·have e:∀x,put N d x p=if p.brk N x then p.endl else p.hold d.b.toNat:=fun x=>by unfold put;rw[IO (by omega),IO (by omega),Kd u]
  rw[e,e]
  rcases h.2 u with H|G|M
  ·have I:p.endl=p:=by unfold Pr.endl;rw[Kd H]
   have J:p.hold d.b.toNat=p:=by unfold Pr.hold;rw[Kd H]
   rw[I,J];simp
  ·have:p.brk N n=p.brk N n':=by unfold Pr.brk;rw[Kd G,Kd G]
   rw[this]
  ·have:p.brk N n=p.brk N n':=by unfold Pr.brk;rw[M]
   rw[this]
 ·by_cases F:d.k=6
  ·have e:∀x,put N d x p={ p with ar:=p.bl :: p.ar,bl:=⟨min (p.bl.ind+d.i.toNat) 1000,d.e,p.fits N x⟩ }:=fun x=>by
    unfold put;rw[IO (by omega),IO (by omega),IO (by omega),IO (by omega),IO (by omega),Kd F]
   rw[e,e,h.1 F]
  ·unfold put;simp only[IO u,IO F]
theorem rB {N:Nat}{c:Prop} [Decidable c] (h:((n:Int)<=(N:Int)-(p.at:Nat))↔c):p.fits N n=decide c:=by
 unfold Pr.fits;rw[KR,<-h];omega
theorem Gu {N:Nat}(hN:N<=4096) {p:Pr}{d:Dc}{r rest:List Dc}(hI:Ft N p (bm (d :: (r++rest))).2.1 (bm (d :: (r++rest))).2.2) (h:(jl N p (d :: r)).2=true\/(rest=[]/\∃o j,0<=o/\cH o j (d :: r)=none)):put N d (jl N p (d :: r)).1 p=put N d (cf d (bm (r++rest)).2).1 p:=by
 have hb:=(oD (r++rest)).2.1;refine qu ⟨fun F=>?_,fun J=>?_⟩
 ·have e:jl N p (d :: r)=if(N:Int)-(p.at:Nat)<0 then(0,true)else qi ((N:Int)-(p.at:Nat)) 0 1 r:=by simp only[jl,Kd F]
  have I:(cf d (bm (r++rest)).2).1=(bm (r++rest)).2.1.all:=by unfold cf;rw[IO (by omega),Kd F]
  rw[I]
  by_cases hR:(N:Int)-(p.at:Nat)<0
  ·rw[e,Kd hR];unfold Pr.fits;rw[KR];simp only;omega
  ·rw[IO hR]at e
   have ht:(qi ((N:Int)-(p.at:Nat)) 0 1 r).2=true:=by
    rcases h with h|⟨_,o,j,ho,u⟩
    ·rw[e]at h;exact h
    ·simp only[cH]at u
     split at u
     ·have e1:cY d.k=1:=by unfold cY;rw[Kd F]
      rw[e1]at u;exact jo r 0 1 _ _ (ge _) (by omega) u
     ·cases u
   have:=zU (R:=(N:Int)-(p.at:Nat)) (by omega) rest r 0 1 (ge _) ht;rw[e,rB this];unfold Pr.fits;rw[KR];have aa:=hb.1;show((min (0+(bm (r++rest)).2.1.all) 4097:Nat):Int)<=_↔_;omega
 ·have e:jl N p (d :: r)=if p.sk.fresh||p.bl.ev||p.bl.ft then(0,true)else py ((N:Int)-(p.at:Nat)) d.b.toNat 0 r:=by
   have F:¬d.k=6:=by omega
   simp only[jl,IO F,Kd J]
  have G:pw d=d.b.toNat:=by unfold pw;rw[IO (by omega),IO (by omega),Kd J]
  have I:(cf d (bm (r++rest)).2).1=min ((bm (r++rest)).2.1.hang+d.b.toNat) 4097:=by
   unfold cf;rw[IO (by omega),IO (by omega),Kd J,G];rfl
  by_cases u:p.sk.fresh=true
  ·exact .inl u
  by_cases M:p.bl.ev=true
  ·exact .inr (.inl M)
  refine .inr (.inr ?_);rw[I]
  by_cases ht:p.bl.ft=true
  ·rw[e,Kd (by simp[ht])];have h1:=hI.ft 0 p.bl rfl ht;have h2:=iO d (r++rest) 0 (by omega);have O:dn d.k 0=0:=by unfold dn;rw[IO (by omega),IO (by omega)]
   rw[O,G]at h2;have h4:(bm (r++rest)).2.1.hang<=(bm (r++rest)).2.1.all:=(oC (r++rest)).1;have h5:eR 0 (bm (r++rest)).2.1 (bm (r++rest)).2.2=(bm (r++rest)).2.1.all:=rfl;unfold Pr.fits;rw[KR];simp only;omega
  ·rw[e,IO (by simp[u,M,ht])]
   have H:(((py ((N:Int)-(p.at:Nat)) d.b.toNat 0 r).1:Int)<=(N:Int)-(p.at:Nat)↔((min (d.b.toNat+eQ 0 (bm (r++rest)).2.1 (bm (r++rest)).2.2) 4097:Nat):Int)<=(N:Int)-(p.at:Nat)):=by
    rcases h with h|⟨hr,_⟩
    ·rw[e,IO (by simp[u,M,ht])]at h;exact zT (by omega) rest r _ _ h
    ·subst hr;rw[KP];exact mS (by omega) r _ _
   rw[rB H];unfold Pr.fits;rw[KR];have h5:eQ 0 (bm (r++rest)).2.1 (bm (r++rest)).2.2=(bm (r++rest)).2.1.hang:=rfl;omega
theorem IY {t:ByteArray}(h:lC t=false):lf t<0:=by
 unfold lf Lib.lastIndexByte
 rcases Lib.lastIdx_spec t 10 t.size with⟨u,_⟩|⟨i,G,_,F,_⟩
 ·rw[u];omega
 ·exfalso
  have H:(10:UInt8)∈t.data.toList:=by
   have e:t.data[i]! = t.data[i]:=Oi t.data i G;rw[e]at F
   have:t.data[i]=10:=by
    apply N8.1
    have:(10:UInt8).toNat=10:=rfl;omega
   rw[<-this];exact Array.getElem_mem_toList _
  unfold lC at h;rw[Ku H]at h;cases h
theorem Dl {t:ByteArray}(u:0<t.size) (h:lC t=false):(({ p with sk:=p.sk.text t,en:=false }:Pr).at)=p.at+(tw t).toNat:=by
 unfold Pr.at;show(p.sk.text t).col+(p.sk.text t).wait=_;unfold cK.text;rw[IO (by omega)];show(iG p.sk.col p.sk.wait t).toNat+0=_;unfold iG;rw[Kd (IY h)];have:=(kK t).1;omega
theorem fQ (p:Pr) (m:Nat):(p.hold m).at<=p.at+m/\(p.hold m).bl=p.bl/\(p.hold m).ar=p.ar:=by
 unfold Pr.hold
 split
 ·exact⟨by omega,rfl,rfl⟩
 ·refine⟨?_,rfl,rfl⟩;show p.sk.col+(p.sk.wait+m)<=p.sk.col+p.sk.wait+m;omega
theorem eX (p:Pr):p.endl.bl=p.bl/\p.endl.ar=p.ar:=by unfold Pr.endl;split<;>exact⟨rfl,rfl⟩
theorem Ft.any {N:Nat}{s:Sp}(h:Ft N p s t) {m:Nat}{b:Bk}(u:(p.bl :: p.ar)[m]?=some b) (F:b.ft=true):p.bl.ft=true:=
 h.mo m 0 b p.bl (Kj _) u rfl F
theorem Ft.step {N:Nat}(hN:N<=4096) {p H:Pr}{d:Dc}{x:List Dc}(h:Ft N p (bm (d :: x)).2.1 (bm (d :: x)).2.2) (I:d.k≠6/\d.k≠7) (hb:H.bl=p.bl) (O:H.ar=p.ar) (J:p.bl.ft=true->H.at<=p.at+pw d):Ft N H (bm x).2.1 (bm x).2.2:=by
 refine⟨fun m b u G=>?_,fun m m' b b' M u F G=>?_⟩
 ·rw[hb,O]at u;have h1:=h.ft m b u G;have h2:=iO d x m (fun e=>absurd e I.2);have h3:dn d.k m=m:=by unfold dn;rw[IO I.1,IO I.2]
  rw[h3]at h2;have h4:=J (h.any u G);omega
 ·rw[hb,O]at u F;exact h.mo m m' b b' M u F G
theorem Hc {N:Nat}(J:N<=4096) {p:Pr}{d:Dc}{x:List Dc}(hd:rt d=true) (h7:d.k=7->p.ar≠[]) (h:Ft N p (bm (d :: x)).2.1 (bm (d :: x)).2.2):Ft N (put N d (cf d (bm x).2).1 p) (bm x).2.1 (bm x).2.2:=by
 have hA:=fun m hm=>iO d x m hm
 have hH:=(oC x).1;have hB:=(oD x).2.1;cases iy hd with
 |text t hq=>
  refine h.step J ⟨by simp,by simp⟩ rfl rfl (fun u=>?_);have h1:=h.ft 0 p.bl rfl u;have H:=hA 0 (by intro e;cases e)
  by_cases hl:lC t=true
  ·exfalso
   have:pw ⟨1,t,0,0,false⟩=4097:=by simp[pw,hl]
   rw[this]at H;omega
  ·have ab:lC t=false:=by simpa using hl
   have:pw ⟨1,t,0,0,false⟩=(tw t).toNat:=by simp[pw,ab]
   rw[this];show(({ p with sk:=p.sk.text t,en:=false }:Pr).at)<=_;rw[Dl (by have:=(iz hq).1;omega) ab];exact ge _
 |brk m hq=>
  have e:∀n,put N ⟨3,bE,m,0,false⟩ n p=if p.brk N n then p.endl else p.hold m.toNat:=fun n=>by simp[put]
  rw[e];have O:pw ⟨3,bE,m,0,false⟩=m.toNat:=by simp[pw]
  by_cases u:p.bl.ft=true
  ·have h1:=h.ft 0 p.bl rfl u;have H:=hA 0 (by intro e;cases e);rw[O]at H;have en:(cf ⟨3,bE,m,0,false⟩ (bm x).2).1=min ((bm x).2.1.hang+m.toNat) 4097:=by simp[cf,O,Sp.wid]
   have af:(bm x).2.1.hang<=(bm x).2.1.all:=hH;have h5:eR 0 (bm x).2.1 (bm x).2.2=(bm x).2.1.all:=rfl;have h6:dn 3 0=0:=rfl;rw[h6]at H
   have hb:p.brk N (cf ⟨3,bE,m,0,false⟩ (bm x).2).1=false:=by
    unfold Pr.brk
    split
    ·simp[u]
    ·rw[en];unfold Pr.fits;simp;omega
   rw[hb];simp only[KE,LP];obtain⟨k1,k2,k3⟩:=fQ p m.toNat;exact h.step J ⟨by simp,by simp⟩ k2 k3 (fun _=>by rw[O];exact k1)
  ·split
   ·exact h.step J ⟨by simp,by simp⟩ (eX p).1 (eX p).2 (fun M=>absurd M u)
   ·obtain⟨k1,k2,k3⟩:=fQ p m.toNat;exact h.step J ⟨by simp,by simp⟩ k2 k3 (fun M=>absurd M u)
 |beg m e hq=>
  have en:(cf ⟨6,bE,0,m,e⟩ (bm x).2).1=(bm x).2.1.all:=by simp[cf]
  rw[en];have ep:put N ⟨6,bE,0,m,e⟩ (bm x).2.1.all p={ p with ar:=p.bl :: p.ar,bl:=⟨min (p.bl.ind+m.toNat) 1000,e,p.fits N (bm x).2.1.all⟩ }:=by simp[put]
  rw[ep]
  have aa:∀(k:Nat) (b:Bk),(p.bl :: p.ar)[k]?=some b->b.ft=true->eR (k+1) (bm x).2.1 (bm x).2.2+p.at<=N:=by
   intro k b F u;have h1:=h.ft k b F u;have H:=hA k (by intro e;cases e);have h3:dn 6 k=k+1:=rfl;rw[h3,sZ (.inl rfl)]at H;omega
  have ac:∀(k:Nat) (b:Bk),(p.bl :: p.ar)[k]?=some b->b.ft=true->p.fits N (bm x).2.1.all=true:=by
   intro k b F u;have h1:=aa k b F u;have H:=EV (k+1) (bm x).2.1 (bm x).2.2;unfold Pr.fits;exact Ku (by omega)
  refine⟨fun k b F u=>?_,fun k k' b b' ae F G u=>?_⟩
  ·cases k with
   |zero=>
    simp at F;subst F;have:p.fits N (bm x).2.1.all=true:=u;unfold Pr.fits at this;have:=KQ this;exact this
   |succ k=>exact aa k b (by simpa using F) u
  ·cases k with
   |zero=>
    have e0:k'=0:=by omega
    subst e0;rw[F]at G;cases G;exact u
   |succ k=>
    cases k' with
    |zero=>
     simp at G;subst G;exact ac k b (by simpa using F) u
    |succ k'=>exact h.mo k k' b b' (by omega) (by simpa using F) (by simpa using G) u
 |blank=>
  have e:∀n,put N ⟨2,bE,0,0,false⟩ n p=p.hold 1:=fun n=>by simp[put]
  rw[e];obtain⟨k1,k2,k3⟩:=fQ p 1;have e2:pw ⟨2,bE,0,0,false⟩=1:=by simp[pw]
  exact h.step J ⟨by simp,by simp⟩ k2 k3 (fun _=>by rw[e2];exact k1)
 |hard=>
  have e:∀n,put N ⟨4,bE,0,0,false⟩ n p=p.endl:=fun n=>by simp[put]
  rw[e];refine h.step J ⟨by simp,by simp⟩ (eX p).1 (eX p).2 (fun u=>?_);have h1:=h.ft 0 p.bl rfl u;have H:=hA 0 (by intro e;cases e);have:pw ⟨4,bE,0,0,false⟩=4097:=by simp[pw]
  rw[this]at H;omega
 |empty=>
  have e:∀n,put N ⟨5,bE,0,0,false⟩ n p=if p.en then { p with sk:=p.sk.empty,en:=false }else p:=fun n=>by simp[put]
  rw[e]
  have hx:p.bl.ft=true->False:=by
   intro u;have h1:=h.ft 0 p.bl rfl u;have H:=hA 0 (by intro e;cases e);have:pw ⟨5,bE,0,0,false⟩=4097:=by simp[pw]
   rw[this]at H;omega
  split
  ·exact h.step J ⟨by simp,by simp⟩ rfl rfl (fun u=>(hx u).elim)
  ·exact h.step J ⟨by simp,by simp⟩ rfl rfl (fun u=>(hx u).elim)
 | «end»=>
  obtain⟨b0,r0,I⟩:∃b r,p.ar=b :: r:=by
   cases ha:p.ar with
   |nil=>exact absurd ha (h7 rfl)
   |cons b r=>exact⟨b,r,rfl⟩
  have ep:∀n,put N ⟨7,bE,0,0,false⟩ n p={ p with bl:=b0,ar:=r0 }:=fun n=>by simp[put,I]
  rw[ep];refine⟨fun k b F u=>?_,fun k k' b b' ae F G u=>?_⟩
  ·have ad:(p.bl :: p.ar)[k+1]?=some b:=by rw[I];simpa using F
   have h1:=h.ft (k+1) b ad u;have H:=hA (k+1) (by intro _;omega);have h3:dn 7 (k+1)=k:=rfl;rw[h3,sZ (.inr rfl)]at H;show eR k (bm x).2.1 (bm x).2.2+p.at<=N;omega
  ·exact h.mo (k+1) (k'+1) b b' (by omega) (by rw[I];simpa using F) (by rw[I];simpa using G) u
theorem oO {N:Nat}(I:N<=4096) {L:List Dc}(F:cH 0 0 L=none):∀k,k<=L.length->Ft N (gV N L k) (bm (L.drop k)).2.1 (bm (L.drop k)).2.2
 |0,_=>by
  have:gV N L 0=qD:=by simp[gV,oh]
  rw[this];exact ft0 _ _ _
 |k+1,hk=>by
  obtain⟨d,hd⟩:∃d,L[k]?=some d:=⟨_,Ke (by omega)⟩
  have e:L.drop k=d :: L.drop (k+1):=by
   rw[KO (by omega)];congr 1;exact(Kq.1 hd).2
  have J:=oO I F k (by omega);rw[e]at J;obtain⟨m,O,_,hp⟩:=kZ (n:=N) hd;have u:=lj L k;rw[e]at u
  have G:m=(cf d (bm (L.drop (k+1))).2).1:=by
   have H:((bm L).1.drop k)[0]?=some m:=by rw[KD];simpa using O
   rw[<-u]at H;have M:(cf d (bm (L.drop (k+1))).2).1=m:=by simpa[bm]using H
   exact M.symm
  rw[hp,G];exact Hc I (oP L 0 0 F d (LF hd)) (js F hd) J
theorem nQ {N:Nat}(M:N<=4096) {L:List Dc}(O:cH 0 0 L=none) {k:Nat}{d:Dc}{r rest:List Dc}(u:L.drop k=d :: (r++rest)) (h:(jl N (gV N L k) (d :: r)).2=true\/rest=[]):put N d (jl N (gV N L k) (d :: r)).1 (gV N L k)=gV N L (k+1)/\L.drop (k+1)=r++rest:=by
 have aa:k<L.length:=by
  rcases LL k L.length with h|h
  ·exact h
  ·rw[Lu h]at u;cases u
 have hd:L[k]?=some d:=by
  have:(L.drop k)[0]?=some d:=by rw[u];rfl
  rw[KD]at this;simpa using this
 have e:L.drop (k+1)=r++rest:=by
  rw[<-M4] ;rw[u];rfl
 refine⟨?_,e⟩;have F:=oO M O k (by omega);rw[u]at F;obtain⟨m,hm,_,hp⟩:=kZ (n:=N) hd;have G:=lj L k;rw[u]at G
 have H:m=(cf d (bm (r++rest)).2).1:=by
  have I:((bm L).1.drop k)[0]?=some m:=by rw[KD];simpa using hm
  rw[<-G]at I;have h2:(cf d (bm (r++rest)).2).1=m:=by simpa[bm]using I
  exact h2.symm
 rw[hp,H];refine Gu M F ?_
 rcases h with h|h
 ·exact .inl h
 ·subst h;obtain⟨o,h0,_,_,J⟩:=iD (n:=N) O k (by omega);rw[u,KP]at J;exact .inr ⟨rfl,o,k,h0,J⟩
def drn (N:Nat):Pr->List Dc->Pr × List Dc
 |p,[]=>(p,[])
 |p,d :: r=>if(jl N p (d :: r)).2=true then drn N (put N d (jl N p (d :: r)).1 p) r else(p,d :: r)
def vW (N:Nat):Pr->List Dc->Pr
 |p,[]=>p
 |p,d :: r=>vW N (put N d (jl N p (d :: r)).1 p) r
theorem oW (N:Nat):∀(v:List Dc) (p:Pr),∃u,v=u++(drn N p v).2
 |[],p=>⟨[],rfl⟩
 |d :: r,p=>by
  rw[drn]
  split
  ·obtain⟨u,F⟩:=oW N r (put N d (jl N p (d :: r)).1 p);exact⟨d :: u,by rw[KF,<-F]⟩
  ·exact⟨[],rfl⟩
theorem BS (N:Nat) (v:List Dc) (p:Pr):(drn N p v).2.length<=v.length:=by
 obtain⟨u,F⟩:=oW N v p;have:=Kw List.length F;rw[Kf]at this;omega
theorem BR {N:Nat}(u:N<=4096) {L:List Dc}(F:cH 0 0 L=none) (rest:List Dc):∀(v:List Dc) (k:Nat),L.drop k=v++rest->(drn N (gV N L k) v).1=gV N L (k+(v.length-(drn N (gV N L k) v).2.length))
 |[],k,h=>by simp[drn]
 |d :: r,k,h=>by
  rw[drn]
  split
  ·rename_i I
   obtain⟨G,H⟩:=nQ u F h (.inl I);rw[G];have J:=BR u F rest r (k+1) H;have hl:=BS N r (gV N L (k+1));rw[J]
   congr 1
   rw[List.length_cons];omega
  ·simp
structure S9 where
 pr:Pr
 wt:List Dc
 dp:Nat
 cl:Bool
def CE:S9:=⟨qD,[],0,false⟩
def S9.put (N:Nat) (s:S9) (d:Dc):S9 × Int:=
 if s.cl=true then(s,4)else if rt d=true/\¬(d.k=7/\s.dp=0)then(⟨(drn N s.pr (s.wt++[d])).1,(drn N s.pr (s.wt++[d])).2,dn d.k s.dp,false⟩,0)else(s,70)
def S9.close (N:Nat) (s:S9):S9 × Int:=
 if s.cl=true then(s,4)else if 0<s.dp then(s,70)else(⟨vW N s.pr s.wt,[],s.dp,true⟩,0)
def S9.told (s s':S9):List UInt8:=s'.pr.sk.out.drop s.pr.sk.out.length
def jM:Int->List Dc->Option Int
 |o,[]=>some o
 |o,d :: r=>if rt d=true/\0<=o+cY d.k then jM (o+cY d.k) r else none
theorem oQ:∀(l r:List Dc) (o o':Int) (j:Nat),jM o l=some o'->cH o j (l++r)=cH o' (j+l.length) r
 |[],r,o,o',j,h=>by simp only[jM,Ky]at h;subst h;simp
 |d :: l,r,o,o',j,h=>by
  simp only[jM]at h
  split at h
  ·rename_i hc
   rw[KF];simp only[cH];rw[Kd hc,oQ l r _ o' _ h]
   congr 1
   rw[List.length_cons];omega
  ·cases h
theorem kl:∀(l r:List Dc) (o o':Int),jM o l=some o'->jM o (l++r)=jM o' r
 |[],r,o,o',h=>by simp only[jM,Ky]at h;subst h;simp
 |d :: l,r,o,o',h=>by
  simp only[jM]at h
  split at h
  ·rename_i hc
   rw[KF];simp only[jM];rw[Kd hc,kl l r _ o' h]
  ·cases h
structure sa (N:Nat) (l:List Dc) (s:S9):Prop where
 op:jM 0 l=some (s.dp:Int)
 cl:s.cl=false
 len:s.wt.length<=l.length
 wt:s.wt=l.drop (l.length-s.wt.length)
 pr:∀rest,cH 0 0 (l++rest)=none->s.pr=gV N (l++rest) (l.length-s.wt.length)
theorem sin0 (N:Nat):sa N [] CE:=⟨rfl,rfl,ge _,rfl,fun u _=>by simp[gV,oh,CE]⟩
theorem Dy {N:Nat}(hN:N<=4096) {l:List Dc}{s:S9}(h:sa N l s) {d:Dc}(hd:rt d=true/\¬(d.k=7/\s.dp=0)):(s.put N d).2=0/\sa N (l++[d]) (s.put N d).1:=by
 have e:s.put N d=(⟨(drn N s.pr (s.wt++[d])).1,(drn N s.pr (s.wt++[d])).2,dn d.k s.dp,false⟩,0):=by
  unfold S9.put;rw[IO (by rw[h.cl];simp),Kd hd]
 rw[e];obtain⟨u,hu⟩:=oW N (s.wt++[d]) s.pr;have I:=BS N (s.wt++[d]) s.pr;rw[Kf,L3]at I;have ab:=h.len
 have G:s.wt++[d]=(l++[d]).drop (l.length-s.wt.length):=by
  rw[K9 (by omega),<-h.wt]
 refine⟨rfl,?_,rfl,?_,?_,?_⟩
 ·show jM 0 (l++[d])=some ((dn d.k s.dp:Nat):Int)
  rw[kl l [d] 0 _ h.op];have hk:=hd.2
  have M:(s.dp:Int)+cY d.k=((dn d.k s.dp:Nat):Int)/\0<=(s.dp:Int)+cY d.k:=by
   unfold cY dn
   by_cases H:d.k=6
   ·simp only[Kd H];omega
   ·by_cases O:d.k=7
    ·simp only[IO H,Kd O];omega
    ·simp only[IO H,IO O];omega
  simp only[jM];rw[Kd ⟨hd.1,M.2⟩,M.1]
 ·show(drn N s.pr (s.wt++[d])).2.length<=(l++[d]).length
  rw[Kf,L3];omega
 ·show(drn N s.pr (s.wt++[d])).2=(l++[d]).drop ((l++[d]).length-(drn N s.pr (s.wt++[d])).2.length)
  have aa:u.length=s.wt.length+1-(drn N s.pr (s.wt++[d])).2.length:=by
   have:=Kw List.length hu;rw[Kf,Kf,L3]at this;omega
  have e2:(l++[d]).length-(drn N s.pr (s.wt++[d])).2.length=(l.length-s.wt.length)+u.length:=by
   rw[Kf,L3];omega
  rw[e2,<-M4,<-G]
  conv=>rhs;rw[hu]
  rw[List.drop_left]
 ·intro F hf;have J:l++[d]++F=l++([d]++F):=Ks _ _ _;have hp:=h.pr ([d]++F) (by rw[<-J];exact hf);rw[<-J]at hp
  have kv:(l++[d]++F).drop (l.length-s.wt.length)=(s.wt++[d])++F:=by
   rw[K9 (by rw[Kf];omega),<-G]
  have:=BR hN hf F (s.wt++[d]) (l.length-s.wt.length) kv;rw[<-hp]at this;show(drn N s.pr (s.wt++[d])).1=gV N (l++[d]++F) ((l++[d]).length-(drn N s.pr (s.wt++[d])).2.length);rw[this]
  congr 1
  rw[Kf,Kf,L3];omega
def ef (s:S9) (T C:Nat):Prop:=∃U,Bp s.pr U/\U+pS s.wt<=T/\jM (s.pr.ar.length:Int) s.wt=some (s.dp:Int)/\s.pr.ar.length+s.wt.length<=C
theorem AG:∀(l:List Dc) (o o':Int),jM o l=some o'->∀d∈l,rt d=true
 |[],o,o',h=>by simp
 |d :: r,o,o',h=>by
  simp only[jM]at h
  split at h
  ·rename_i hc
   intro x u
   rcases KL.1 u with rfl|u
   ·exact hc.1
   ·exact AG r _ _ h x u
  ·cases h
theorem ef.rt {s:S9}(h:ef s T C):∀d∈s.wt,Go.Proofs.YtcmbkeghnmgbfaaGreatDoor.Lw.rt d=true:=by
 obtain⟨_,_,_,h,_⟩:=h;exact AG _ _ _ h
theorem ef.step {p:Pr}{d:Dc}{r:List Dc}{dp:Nat}{cl:Bool}{T C:Nat}(N need:Nat) (h:ef ⟨p,d :: r,dp,cl⟩ T C):(d.k=7->p.ar≠[])/\(∃U,Bp p U/\U<=T)/\p.ar.length<=C/\(d :: r).length<=C/\ef ⟨put N d need p,r,dp,cl⟩ T C:=by
 obtain⟨U,F,G,u,H⟩:=h;simp only at F G u H;have e:pS (d :: r)=ud d+pS r:=by simp[pS]
 rw[e]at G;rw[List.length_cons]at H;simp only[jM]at u
 split at u
 ·rename_i hc
  have hd:=qv (n:=N) (need:=need) hc.1 (p:=p) rfl hc.2;refine⟨fun I J=>?_,⟨U,F,by omega⟩,by omega,by rw[List.length_cons];omega,U+ud d,GK hc.1 F,by show U+ud d+pS r<=T;omega,?_,?_⟩
  ·have:=hc.2;rw[J,I]at this;exact absurd this (by decide)
  ·show jM (((put N d need p).ar.length:Nat):Int) r=some (dp:Int)
   rw[hd];exact u
  ·show(put N d need p).ar.length+r.length<=_
   have:cY d.k<=1:=by unfold cY;split;omega;split<;>omega
   omega
 ·cases u
theorem Hl (h:¬(k=7/\o=0)):(o:Int)+cY k=((dn k o:Nat):Int)/\0<=(o:Int)+cY k:=by
 unfold cY dn
 by_cases u:k=6
 ·simp only[Kd u];omega
 ·by_cases F:k=7
  ·simp only[IO u,Kd F];omega
  ·simp only[IO u,IO F];omega
theorem Hm (h:0<=(o:Int)+cY k):¬(k=7/\o=0):=by
 rintro⟨rfl,rfl⟩;simp[cY]at h
theorem qP (o:Nat) (d:Dc) (r:List Dc):jM o (d :: r)=if rt d=true/\¬(d.k=7/\o=0)then jM ((dn d.k o:Nat):Int) r else none:=by
 rw[jM]
 by_cases h:rt d=true/\¬(d.k=7/\o=0)
 ·obtain⟨F,G⟩:=Hl h.2;rw[Kd h,Kd ⟨h.1,G⟩,F]
 ·rw[IO h,IO];exact fun u=>h ⟨u.1,Hm u.2⟩
theorem rz:∀(o:Nat) (j:Nat),cH o j (List.replicate o (dK 7))=none
 |0,j=>rfl
 |o+1,j=>by
  have e:cY (dK 7).k=-1:=rfl;rw[List.replicate_succ,cH,e,Kd ⟨by decide,by omega⟩];rw[show((o+1:Nat):Int)+-1=(o:Int)by omega];exact rz o _
theorem ef.drn (N:Nat) {dp T C:Nat}{cl:Bool}:∀(v:List Dc) (p:Pr),ef ⟨p,v,dp,cl⟩ T C->ef ⟨(Go.Proofs.YtcmbkeghnmgbfaaGreatDoor.Lw.drn N p v).1,(Go.Proofs.YtcmbkeghnmgbfaaGreatDoor.Lw.drn N p v).2,dp,cl⟩ T C
 |[],p,h=>h
 |d :: r,p,h=>by
  rw[Go.Proofs.YtcmbkeghnmgbfaaGreatDoor.Lw.drn]
  split
  ·exact ef.drn N r _ (h.step N _).2.2.2.2
  ·exact h
theorem C8 (a b:List Dc):pS (a++b)=pS a+pS b:=by simp[pS]
theorem ef.push {s:S9}(h:ef s T C) {d:Dc}(hd:Go.Proofs.YtcmbkeghnmgbfaaGreatDoor.Lw.rt d=true/\¬(d.k=7/\s.dp=0)) (cl:Bool):ef ⟨s.pr,s.wt++[d],dn d.k s.dp,cl⟩ (T+ud d) (C+1):=by
 obtain⟨U,u,G,F,H⟩:=h;refine⟨U,u,?_,?_,?_⟩
 ·show U+pS (s.wt++[d])<=_
  rw[C8];have:pS [d]=ud d:=by simp[pS]
  omega
 ·show jM (s.pr.ar.length:Int) (s.wt++[d])=some (((dn d.k s.dp:Nat)):Int)
  rw[kl _ _ _ _ F,qP,Kd hd];rfl
 ·show s.pr.ar.length+(s.wt++[d]).length<=_
  rw[Kf,L3];omega
theorem ef.put {N:Nat}{s:S9}(h:ef s T C) (d:Dc):ef (s.put N d).1 (T+ud d) (C+1):=by
 have up:ef s (T+ud d) (C+1):=by
  obtain⟨U,u,G,F,H⟩:=h;exact⟨U,u,by omega,F,by omega⟩
 unfold S9.put
 split
 ·exact up
 ·split
  ·rename_i hd
   exact ef.drn N _ _ (h.push hd false)
  ·exact up
theorem wG (s:S9):s.told s=[]:=by unfold S9.told;rw[LT]
theorem AH:∀(l:List Dc) (o o':Int),jM o l=some o'->o'<=o+l.length
 |[],o,o',h=>by simp only[jM,Ky]at h;subst h;simp
 |d :: r,o,o',h=>by
  simp only[jM]at h
  split at h
  ·have:=AH r _ _ h;have e:cY d.k<=1:=by unfold cY;split;omega;split<;>omega
   rw[List.length_cons];omega
  ·cases h
theorem ef.dpb {s:S9}(h:ef s T C):s.dp<=C:=by
 obtain⟨_,_,_,u,F⟩:=h;have:=AH _ _ _ u;omega
section
variable {R:(Nat->Prop)->World->Nat->Nat->S9->Prop} {W0 W:World} {own:Nat->Nat} {g N:Nat} {s:S9}
end
theorem ef.zero:ef CE 0 0:=⟨0,bp0,ge _,rfl,ge _⟩
section
variable {R:(Nat->Prop)->World->Nat->Nat->S9->Prop} {W V:World} {g bl:Nat} {s:S9}
end
theorem vV (N:Nat) {dp T C:Nat}{cl:Bool}:∀(v:List Dc) (p:Pr),ef ⟨p,v,dp,cl⟩ T C->ef ⟨vW N p v,[],dp,cl⟩ T C
 |[],p,h=>h
 |d :: r,p,h=>by
  rw[vW];exact vV N r _ (h.step N _).2.2.2.2
theorem ef.close {N:Nat}{s:S9}(h:ef s T C):ef (s.close N).1 T C:=by
 unfold S9.close
 split
 ·exact h
 ·split
  ·exact h
  ·exact vV N s.wt s.pr (cl:=true) h
structure RG {β:Type}(T e:TypeId) (enc:β->List Value) (own:Nat->Nat) (i:Nat) (w:World) (g room:Nat) (sv:Value) (zs:List β) (front:Nat) (l:List β):Prop where
 blk:w.heap[g]?=some (.cells #[.int .i64 room,sv,.int .i64 front,.int .i64 l.length] T (0,0))
 lab:own g=i
 r1:1<=room
 r2:room<=2097152
 len:zs.length<=room
 row:(zs=[]/\sv=.slice none 0 0/\front=0)\/(∃b,sv=.slice (some ⟨b,0,none⟩) zs.length zs.length/\w.heap[b]?=some (.cells (au enc zs).toArray e (0,0))/\own b=i/\b≠g/\front<zs.length)
 hold:df zs front l
theorem RG.c0 {T:TypeId}{enc:β->List Value}{own:Nat->Nat}{g:Nat}{u:List β}{l:List β}(h:RG T e enc own i w g room sv u front l):w.cell? ⟨g,0,none⟩=some (.int .i64 room):=aa h.blk rfl
theorem RG.c1 {T:TypeId}{enc:β->List Value}{own:Nat->Nat}{g:Nat}{u:List β}{l:List β}(h:RG T e enc own i w g room sv u front l):w.cell? ⟨g,1,none⟩=some sv:=aa h.blk rfl
theorem RG.c2 {T:TypeId}{enc:β->List Value}{own:Nat->Nat}{g:Nat}{u:List β}{l:List β}(h:RG T e enc own i w g room sv u front l):w.cell? ⟨g,2,none⟩=some (.int .i64 front):=aa h.blk rfl
theorem RG.c3 {T:TypeId}{enc:β->List Value}{own:Nat->Nat}{g:Nat}{u:List β}{l:List β}(h:RG T e enc own i w g room sv u front l):w.cell? ⟨g,3,none⟩=some (.int .i64 l.length):=aa h.blk rfl
theorem RG.fz {T:TypeId}{enc:β->List Value}{own:Nat->Nat}{g:Nat}{u:List β}{l:List β}(h:RG T e enc own i w g room sv u front l) (k:Nat):w.frozen? ⟨g,k,none⟩=false:=aj h.blk
abbrev pa (x:Option Nat):Option Addr:=x.map fun b=>⟨b,0,none⟩
def aY (x:Option Nat):List Value:=[.pointer (pa x)]
theorem lI (u:List (Option Nat)):au aY u=u.map (fun x=>Value.pointer (pa x)):=by
 induction u with
 |nil=>rfl
 |cons x r ih=>rw[du,ih];rfl
theorem gu {u:List (Option Nat)}{k:Nat}{x:Option Nat}(h:u[k]?=some x):(au aY u).toArray[k]?=some (.pointer (pa x)):=by
 rw[lI];simp[h]
theorem ny (u:List (Option Nat)) (k:Nat):(au aY u).toArray.setIfInBounds k (.pointer none)=(au aY (u.set k none)).toArray:=by
 rw[lI,lI,Mg,O7];rfl
theorem yu (u:List (Option Nat)) (k:Nat) (x:Option Nat):(au aY u).toArray.setIfInBounds k (.pointer (pa x))=(au aY (u.set k x)).toArray:=by
 rw[lI,lI,Mg,O7]
abbrev jY:=RG (β:=Option Nat) 313 113 aY
theorem rS (g n front k p:Nat) (G:Option Addr) (w:World) (H:w.cell? ⟨g,1,none⟩=some (.slice G n n)) (I:w.cell? ⟨g,2,none⟩=some (.int .i64 front)) (O:0<n) (J:front<=2097152) (M:k<=2097152) (u:(front+k) % n=p) :
  Kb 252 #[.pointer (some ⟨g,0,none⟩),.int .i64 k] w fun e w'=>e=.returned (.int .i64 p)/\∃m,w'=w.drewN m:=by
 have q1:¬((n:Int)=0):=by omega
 have F:Hid (((front:Int)+(k:Int)) % (n:Int)=(p:Int)):=by show _=_;rw[<-u];simp
 clear u
 go_enter func252,ntmps252
 go_wp2_with fail
 go_quiet (fail)
 go_wp2_with fail
 go_ret
 exact⟨Kw (fun z=>Ending.returned (.int .i64 z)) F.out,⟨_,rfl⟩⟩
theorem FJ (g c:Nat) (w:World) (h:w.cell? ⟨g,3,none⟩=some (.int .i64 c)) (hc:0<c):Kb 263 #[.pointer (some ⟨g,0,none⟩)] w fun e w'=>e=.returned (.int .i64 0)/\w'=w:=by
 have u:((c:Int)==0)=false:=by simp;omega
 have F:¬((c:Int)=0):=by omega
 have G:¬(c=0):=by omega
 go_enter func263,ntmps263
 go_wp2_with fail
 go_ret
 exact⟨rfl,rfl⟩
theorem pP (k:Int) (w:World):Kb 255 #[.pointer none,.int .i64 k] w fun e w'=>e=.returned (.int .i64 3)/\w'=w:=by
 go_enter func255,ntmps255
 go_wp2_with fail
 go_ret
 exact⟨rfl,rfl⟩
theorem C5 (g c k:Nat) (w:World) (h:w.cell? ⟨g,3,none⟩=some (.int .i64 c)) (u:k<c):Kb 255 #[.pointer (some ⟨g,0,none⟩),.int .i64 k] w fun e w'=>e=.returned (.int .i64 0)/\w'=w:=by
 have F:decide ((k:Int)<0)=false:=by simp
 have G:decide ((c:Int)<=(k:Int))=false:=by simp;omega
 have H:¬((c:Int)<=(k:Int)):=by omega
 have I:¬(c<=k):=by omega
 go_enter func255,ntmps255
 go_wp2_with fail
 go_ret
 exact⟨rfl,rfl⟩
theorem AU (w:World):Kb 206 #[.pointer none] w fun e w'=>e=.returned (.int .i64 0)/\w'=w:=by
 go_enter func206,ntmps206
 go_wp2_with fail
 go_ret
 exact⟨rfl,rfl⟩
theorem AV (g c:Nat) (w:World) (h:w.cell? ⟨g,3,none⟩=some (.int .i64 c)):Kb 206 #[.pointer (some ⟨g,0,none⟩)] w fun e w'=>e=.returned (.int .i64 c)/\w'=w:=by
 go_enter func206,ntmps206
 go_wp2_with fail
 go_ret
 exact⟨rfl,rfl⟩
theorem JP (k:Nat) (w:World) (u:1<=k) (F:k<=2097152):Kb 193 #[.int .i64 k] w fun e w'=>e=.returned (.tuple #[.pointer (some ⟨w.heap.size,0,none⟩),.int .i64 0])/\w'=w.alloc (.cells #[.int .i64 k,.slice none 0 0,.int .i64 0,.int .i64 0] 313):=by
 have G:decide ((k:Int)<1)=false:=by simp;omega
 have H:decide (2097152<(k:Int))=false:=by simp;omega
 have I:¬((k:Int)<1):=by omega
 have J:¬(2097152<(k:Int)):=by omega
 go_enter func193,ntmps193
 go_wp2_with fail
 go_ret2
 exact⟨rfl,rfl⟩
theorem BK (g n front k p b:Nat) (x:Option Nat) (w:World) (F:w.cell? ⟨g,1,none⟩=some (.slice (some ⟨b,0,none⟩) n n)) (G:w.cell? ⟨g,2,none⟩=some (.int .i64 front)) (M:p<n) (H:front<=2097152) (I:k<=2097152) (u:(front+k) % n=p)
  (O:w.cell? ⟨b,p,none⟩=some (.pointer (pa x))) (J:w.frozen? ⟨b,p,none⟩=false) :
  Kb 264 #[.pointer (some ⟨g,0,none⟩),.int .i64 k] w fun e w'=>e=.returned (.pointer (pa x))/\∃m,w'=(w.drewN m).setCell ⟨b,p,none⟩ (.pointer none):=by
 have HC:=ku fun W (a:W.cell? ⟨g,1,none⟩=some (.slice (some ⟨b,0,none⟩) n n)) (b:W.cell? ⟨g,2,none⟩=some (.int .i64 front))=>rS g n front k p _ W a b (by omega) H I u
 have i1:(0:Int)<=(p:Int):=by omega
 have i2:(p:Int)<(n:Int):=by omega
 clear u
 go_enter func264,ntmps264
 go_wp2_with fail
 refine(HC.out _ F G).mono ?_;rintro e w1⟨rfl,m,rfl⟩
 go_wp2_with fail
 go_ret
 exact⟨rfl,m,rfl⟩
