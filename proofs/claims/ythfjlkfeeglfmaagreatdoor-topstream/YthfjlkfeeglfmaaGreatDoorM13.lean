import Derived.BigRegion
import Derived.Deep.RegionWith
import Derived.Test.YthfjlkfeeglfmaaGreatDoorM02
set_option linter.all false
set_option maxHeartbeats 1000000
namespace Go.Proofs.YthfjlkfeeglfmaaGreatDoor.Lw
open Go.Proofs.Tryz
open Lx
open Go.RowKit
variable {β:Type}{T e:TypeId}{i g room front:Nat}{w:World}{sv:Value}
structure RG {β:Type}(T e:TypeId) (enc:β->List Value) (own:Nat->Nat) (i:Nat) (w:World) (g room:Nat) (sv:Value) (zs:List β) (front:Nat) (l:List β):Prop where
 blk:w.heap[g]?=some (.cells #[Tu room,sv,Tu front,Tu l.length] T (0,0))
 lab:own g=i
 r1:1<=room
 r2:room<=2097152
 len:zs.length<=room
 row:(zs=[]/\sv=.slice none 0 0/\front=0)\/(∃b,sv=.slice (some ⟨b,0,none⟩) zs.length zs.length/\w.heap[b]?=some (.cells (ap enc zs).toArray e (0,0))/\own b=i/\b≠g/\front<zs.length)
 hold:dW zs front l
def RG.c0 {enc:β->List Value}{own:Nat->Nat}{u:List β}{l:List β}(h:RG T e enc own i w g room sv u front l):w.cell? (Tw g 0)=some (Tu room):=aa h.blk rfl
def RG.c1 {enc:β->List Value}{own:Nat->Nat}{u:List β}{l:List β}(h:RG T e enc own i w g room sv u front l):w.cell? (Tw g 1)=some sv:=aa h.blk rfl
def RG.c2 {enc:β->List Value}{own:Nat->Nat}{u:List β}{l:List β}(h:RG T e enc own i w g room sv u front l):w.cell? (Tw g 2)=some (Tu front):=aa h.blk rfl
def RG.c3 {enc:β->List Value}{own:Nat->Nat}{u:List β}{l:List β}(h:RG T e enc own i w g room sv u front l):w.cell? (Tw g 3)=some (Tu l.length):=aa h.blk rfl
def RG.fz {enc:β->List Value}{own:Nat->Nat}{u:List β}{l:List β}(h:RG T e enc own i w g room sv u front l) (k:Nat):w.frozen? (Tw g k)=false:=aj h.blk
abbrev pa (x:Option Nat):Option Addr:=x.map λb=>⟨b,0,none⟩
def bp (x:Option Nat):List Value:=[.pointer (pa x)]
def pD (u:List (Option Nat)):ap bp u=u.map (λx=>Value.pointer (pa x)):=by
 induction u with
 |nil=>rfl
 |cons x r ih=>rw[ei,ih];rfl
def iG {u:List (Option Nat)}{k:Nat}{x:Option Nat}(h:u[k]?=some x):(ap bp u).toArray[k]?=some (.pointer (pa x)):=by
 rw[pD];simp[h]
def rf (u:List (Option Nat)) (k:Nat):(ap bp u).toArray.setIfInBounds k (.pointer none)=(ap bp (u.set k none)).toArray:=by
 rw[pD,pD,T6,V2];rfl
def Di (u:List (Option Nat)) (k:Nat) (x:Option Nat):(ap bp u).toArray.setIfInBounds k (.pointer (pa x))=(ap bp (u.set k x)).toArray:=by
 rw[pD,pD,T6,V2]
abbrev mZ:=RG (β:=Option Nat) 269 61 bp
def xq (g n front k p:Nat) (H:Option Addr) (w:World) (I:w.cell? (Tw g 1)=some (.slice H n n)) (J:w.cell? (Tw g 2)=some (Tu front)) (Q:0<n) (M:front<=2097152) (O:k<=2097152) (u:(front+k) % n=p) :
  Sa 175 #[.pointer (some (Tw g 0)),Tu k] w λe w'=>Uk e (Tu p)/\∃m,w'=w.drewN m:=by
 have S:¬((n:Int)=0):=by omega
 have G:Hid (((front:Int)+(k:Int)) % (n:Int)=(p:Int)):=by show _=_;rw[<-u];simp
 clear u;go_enter func175,ntmps175;(go_wp2_with fail)
 go_quiet (fail)
 (go_wp2_with fail);go_ret;exact⟨Sh (λz=>Ending.returned (Tu z)) G.out,⟨_,rfl⟩⟩
def L5 (g c:Nat) (w:World) (h:w.cell? (Tw g 3)=some (Tu c)) (hc:0<c):Sa 179 #[.pointer (some (Tw g 0))] w λe w'=>Uk e (Tu 0)/\w'=w:=by
 have u:((c:Int)==0)=false:=by simp;omega
 have G:¬((c:Int)=0):=by omega
 have H:¬(c=0):=by omega
 go_enter func179,ntmps179;(go_wp2_with fail)
 go_ret;exact⟨rfl,rfl⟩
def uz (k:Int) (w:World):Sa 178 #[.pointer none,Tu k] w λe w'=>Uk e (Tu 3)/\w'=w:=by
 go_enter func178,ntmps178;(go_wp2_with fail)
 go_ret;exact⟨rfl,rfl⟩
def Je (g c k:Nat) (w:World) (h:w.cell? (Tw g 3)=some (Tu c)) (u:k<c):Sa 178 #[.pointer (some (Tw g 0)),Tu k] w λe w'=>Uk e (Tu 0)/\w'=w:=by
 have G:decide ((k:Int)<0)=false:=by simp
 have H:decide ((c:Int)<=(k:Int))=false:=by simp;omega
 have I:¬((c:Int)<=(k:Int)):=by omega
 have J:¬(c<=k):=by omega
 go_enter func178,ntmps178;(go_wp2_with fail)
 go_ret;exact⟨rfl,rfl⟩
def Gc (w:World):Sa 120 #[.pointer none] w λe w'=>Uk e (Tu 0)/\w'=w:=by
 go_enter func120,ntmps120;(go_wp2_with fail)
 go_ret;exact⟨rfl,rfl⟩
def Gd (g c:Nat) (w:World) (h:w.cell? (Tw g 3)=some (Tu c)):Sa 120 #[.pointer (some (Tw g 0))] w λe w'=>Uk e (Tu c)/\w'=w:=by
 go_enter func120,ntmps120;(go_wp2_with fail)
 go_ret;exact⟨rfl,rfl⟩
def Qz (k:Nat) (w:World) (u:1<=k) (G:k<=2097152):Sa 108 #[Tu k] w λe w'=>Uk e (.tuple #[.pointer (some ⟨w.heap.size,0,none⟩),Tu 0])/\w'=w.alloc (.cells #[Tu k,.slice none 0 0,Tu 0,Tu 0] 269):=by
 have H:decide ((k:Int)<1)=false:=by simp;omega
 have I:decide (2097152<(k:Int))=false:=by simp;omega
 have J:¬((k:Int)<1):=by omega
 have M:¬(2097152<(k:Int)):=by omega
 go_enter func108,ntmps108;(go_wp2_with fail)
 go_ret2;exact⟨rfl,rfl⟩
def G0 (g n front k p b:Nat) (x:Option Nat) (w:World) (G:w.cell? (Tw g 1)=some (.slice (some (Tw b 0)) n n)) (H:w.cell? (Tw g 2)=some (Tu front)) (O:p<n) (I:front<=2097152) (J:k<=2097152) (u:(front+k) % n=p)
  (Q:w.cell? (Tw b p)=some (.pointer (pa x))) (M:w.frozen? (Tw b p)=false) :
  Sa 180 #[.pointer (some (Tw g 0)),Tu k] w λe w'=>Uk e (.pointer (pa x))/\∃m,w'=(w.drewN m).setCell ⟨b,p,none⟩ (.pointer none):=by
 have HC:=aW λW (a:W.cell? (Tw g 1)=some (.slice (some (Tw b 0)) n n)) (b:W.cell? (Tw g 2)=some (Tu front))=>xq g n front k p _ W a b (by omega) I J u
 have S:(0:Int)<=(p:Int):=by omega
 have Y:(p:Int)<(n:Int):=by omega
 clear u;go_enter func180,ntmps180;(go_wp2_with fail);refine(HC.out _ G H).mono ?_;rintro e Z⟨rfl,m,rfl⟩;(go_wp2_with fail);go_ret;exact⟨rfl,m,rfl⟩
def Tryz.info61:(Tryz.prog.info? 61).map (λi=>(i.zero,i.size,i.bytes))=some (some (.pointer none),1,8):=by kernel_rfl
def Tryz.size61:(Tryz.prog.info? 61).map (·.size)=some 1:=by kernel_rfl
def Mk (N:Nat) (M:N<=2097152) (w:World):(Instr.makeSlice 267 (Tu (N:Int)) (Tu (N:Int))).run Tryz.prog w=.ok (.slice (some ⟨w.heap.size,0,none⟩) N N) (w.alloc (.cells (ap bp (List.replicate N none)).toArray 61)):=by
 obtain⟨J,I,u,G,H⟩:=Tf Tryz.info61;have h:=run_make (P:=Tryz.prog) w 267 61 J (.pointer none) underlying267 I u .i64 .i64 (N:Int) (N:Int) (by omega) (by omega) (by rw[H];omega) (by omega)
 have hc:madeCells (Value.pointer none).cells ((N:Int).toNat*1)=(ap bp (List.replicate N none)).toArray:=by
  rw[pD]
  apply TJ.1
  show(madeCells #[.pointer none] _).toList=_;rw[VB];simp
 rw[h,G,hc,Tg]
end Go.Proofs.YthfjlkfeeglfmaaGreatDoor.Lw
namespace Go.Proofs.YthfjlkfeeglfmaaGreatDoor
open Go.Proofs.Tryz
open Lw
open Lx
open Go.RowKit
def Fr.label {i:Nat}{own:Nat->Nat}{w W:World}(h:Below w.heap.size w W):Fr i own (λk=>if k=w.heap.size then i else own k) w W:=
 ⟨h.os,h.tape,h.output,h.size,λk u _=>h.block k u,λk u=>Eq (by omega)⟩
end Go.Proofs.YthfjlkfeeglfmaaGreatDoor
namespace Go.Proofs.YthfjlkfeeglfmaaGreatDoor.Lw
open Go.Proofs.Tryz
open Lx
open Go.RowKit
def ji {u:List (Option Nat)}{v:Value}(h:v∈ap bp u):v.oneCell'=true:=by
 rw[pD]at h;obtain⟨x,_,rfl⟩:=TY.1 h;rfl
def uB (g room n front N b:Nat) (x:Option Nat) (G:List (Option Nat)) (w:World) (aq:G.length=n) (H:g<w.heap.size) (h0:w.cell? (Tw g 0)=some (Tu room)) (h1:w.cell? (Tw g 1)=some (.slice (some (Tw b 0)) n n)) (h2:w.cell? (Tw g 2)=some (Tu front))
  (fz:∀k,w.frozen? (Tw g k)=false)
  (ar:w.heap[b]?=some (.cells (ap bp G).toArray 61 (0,0))) (aw:front<n)
  (hr:room<=2097152) (hn:n<N) (hN:N<=room) (c:(2*n<room/\N=2*n)\/(room<=2*n/\N=room)) :
  Sa 174 #[.pointer (some (Tw g 0))] w λe w'=>Uk e (.tuple #[])/\∃W,Se w W/\W.heap[w.heap.size]?=some (.cells (ap bp (G.drop front++G.take front++List.replicate (N-n) none)).toArray 61 (0,0)) /\
   w'=(W.setCell ⟨g,1,none⟩ (.slice (some ⟨w.heap.size,0,none⟩) N N)).setCell ⟨g,2,none⟩ (Tu 0):=by
 have HM:=Mk N (by omega);have J:=aW ar;have ae:=aW aq;have FZ:=aW fz;have q1:(1:Int)<2*(n:Int):=by omega
 have q3:max (1:Int) (2*(n:Int))=2*(n:Int):=by omega
 clear ar aq fz
 rcases c with⟨c1,c2⟩|⟨c1,c2⟩
 ·have q2:2*(n:Int)<(room:Int):=by omega
  have q4:min (room:Int) (2*(n:Int))=2*(n:Int):=by omega
  rw[show((N:Nat):Int)=2*(n:Int)by omega]at HM;clear c1 c2;go_enter func174,ntmps174;(go_wp2_with fail);go_region;clear HM;obtain⟨W1,Z⟩:=ea ((w.alloc (.cells (ap bp (List.replicate N none)).toArray 61)).drew);have af:Hid (W1.heap[w.heap.size]?=some (.cells (ap bp (List.replicate N none)).toArray 61 (0,0))):=by show _=_;rw[<-Z];exact Uh w _
  have S:Se w W1:=by rw[<-Z];exact((gt _ w).alloc (ge _) _).drew
  rw[Z];clear Z;have d1:=(S.cell (p:=(Tw g 1)) H).trans h1;have d2:=(S.cell (p:=(Tw g 2)) H).trans h2;have e1:(front:Int)<=(n:Int):=by omega
  have e2:¬(n=front):=by omega
  have ac:Hid (∀W,Se w W->∀j v,(ap bp (G.drop front))[j]?=some v->W.cell? (((Tw b front):Addr).add j)=some v):=λW hW j v M=>by
   have ad:(ap bp G)[front+j]?=some v:=by
    rw[<-Sl,show front=front*1 by omega,cu bp 1 (λ_=>rfl)];exact M
   rw[S8];exact aa ((hW.block b (ai J.out)).trans J.out) (by rw[Tn];exact ad)
  have ah:Hid (∀W,Se w W->∀j v,(ap bp (G.take front))[j]?=some v->W.cell? (((Tw b 0):Addr).add j)=some v):=λW hW j v M=>by
   have ad:(ap bp G)[j]?=some v:=by
    have h:(ap bp (G.take front))=(ap bp G).take front:=by rw[<-fx bp 1 (λ_=>rfl),UG]
    rw[h,Sv]at M
    split at M
    ·exact M
    ·cases M
   rw[S8,R3];exact aa ((hW.block b (ai J.out)).trans J.out) (by rw[Tn];exact ad)
  have I:Hid ((ap bp (G.drop front)).length=(n-front)*1):=by show _=_;rw[bD bp 1 (λ_=>rfl),Sj,ae.out]
  have Q:Hid ((ap bp (G.take front)).length=front*1):=by show _=_;rw[bD bp 1 (λ_=>rfl),Sk,ae.out];congr 1;omega
  have O:Hid ((ap bp (List.replicate N none)).length=N):=by show _=_;rw[bD bp 1 (λ_=>rfl),SP,UG]
  have u:Hid (splice (splice (ap bp (List.replicate N none)) 0 (ap bp (G.drop front))) (n-front) (ap bp (G.take front))=ap bp (G.drop front++G.take front++List.replicate (N-n) none)):=by
   show _=_;have:=O.out;have:=I.out;have:=Q.out;rw[gP _ _ _ _ (by omega) (by omega),aT,aT,RW]
   congr 2
   rw[Q.out,show n-front+front*1=n*1 by omega,cu bp 1 (λ_=>rfl),UZ]
  obtain⟨Z0,ak⟩:=ea (ap bp (List.replicate N none));obtain⟨A1,hA1⟩:=ea (ap bp (G.drop front));obtain⟨A2,hA2⟩:=ea (ap bp (G.take front));have M1:Hid (∀v∈A1,v.oneCell'=true):=by show ∀v∈A1,_;rw[<-hA1];exact λv=>ji
  have M2:Hid (∀v∈A2,v.oneCell'=true):=by show ∀v∈A2,_;rw[<-hA2];exact λv=>ji
  rw[ak]at af O u;rw[hA1]at ac I u;rw[hA2]at ah Q u;clear ak hA1 hA2;(go_wp2_with fail)
  go_region_law (refine aJ rfl (.tmp 17) (.tmp 26) 267 267 rfl 61 1 underlying267 Tryz.size61 _ _ _ _ _ _ rfl rfl w.heap.size 0 Z0 61 af.out A1 (n-front) (Tz (by omega)).symm I.out (λ_=>⟨rfl,_,rfl,λj v M=>by first|exact ac.out _ S.drew j v M|simpa using ac.out _ S.drew j v M⟩) (by rw[I.out,O.out];omega) M1.out w.heap.size w S.drew (ge _) ?_;intro w4 am ab)
  all_goals(
   have f1:=(ab.cell (p:=(Tw g 1)) H).trans h1;have f2:=(ab.cell (p:=(Tw g 2)) H).trans h2;have e3:((n-front:Nat):Int)<=(N:Int):=by omega
   have e4:¬(N=n-front):=by omega
   have aj:Hid ((splice Z0 0 A1).length=N):=by show _=_;rw[Wq _ _ _ (by rw[I.out,O.out];omega),O.out]
   have ag:=aW am.out;obtain⟨Z1,al⟩:=ea (splice Z0 0 A1);rw[al]at ag u aj;clear am al;obtain⟨k,hk⟩:=ea (n-front);rw[hk]at u I e3 e4;have av:k+front=n:=by omega
   rw[hk];clear hk;(go_wp2_with fail)
   go_region_law (refine aJ rfl (.tmp 30) (.tmp 39) 267 267 rfl 61 1 underlying267 Tryz.size61 _ _ _ _ _ _ rfl rfl w.heap.size k Z1 61 ag.out A2 front (Tz (by omega)).symm Q.out (λ_=>⟨by first|rfl|simp,_,rfl,λj v M=>ah.out _ ab.drew j v M⟩) (by rw[Q.out,aj.out];omega) M2.out w.heap.size w ab.drew (ge _) ?_;intro w5 an Y))
  all_goals(
   clear f1 f2;have f1:=(Y.cell (p:=(Tw g 1)) H).trans h1;have f2:=(Y.cell (p:=(Tw g 2)) H).trans h2;have f3:=(Y.frozen (p:=(Tw g 1)) H).trans (FZ.out 1);have f4:=(Y.frozen (p:=(Tw g 2)) H).trans (FZ.out 2);have au:Hid (w5.heap[w.heap.size]?=some (.cells (ap bp (G.drop front++G.take front++List.replicate (N-n) none)).toArray 61 (0,0))):=by show _=_;rw[<-u.out];exact an.out
   clear an;(go_wp2_with fail);go_end0;exact⟨rfl,w5,Y,au.out,rfl⟩)
 ·have q2:¬(2*(n:Int)<(room:Int)):=by omega
  have q4:min (room:Int) (2*(n:Int))=(room:Int):=by omega
  rw[show((N:Nat):Int)=(room:Int)by omega]at HM;clear c1 c2;go_enter func174,ntmps174;(go_wp2_with fail);go_region;clear HM;obtain⟨W1,Z⟩:=ea ((w.alloc (.cells (ap bp (List.replicate N none)).toArray 61)).drew);have af:Hid (W1.heap[w.heap.size]?=some (.cells (ap bp (List.replicate N none)).toArray 61 (0,0))):=by show _=_;rw[<-Z];exact Uh w _
  have S:Se w W1:=by rw[<-Z];exact((gt _ w).alloc (ge _) _).drew
  rw[Z];clear Z;have d1:=(S.cell (p:=(Tw g 1)) H).trans h1;have d2:=(S.cell (p:=(Tw g 2)) H).trans h2;have e1:(front:Int)<=(n:Int):=by omega
  have e2:¬(n=front):=by omega
  have ac:Hid (∀W,Se w W->∀j v,(ap bp (G.drop front))[j]?=some v->W.cell? (((Tw b front):Addr).add j)=some v):=λW hW j v M=>by
   have ad:(ap bp G)[front+j]?=some v:=by
    rw[<-Sl,show front=front*1 by omega,cu bp 1 (λ_=>rfl)];exact M
   rw[S8];exact aa ((hW.block b (ai J.out)).trans J.out) (by rw[Tn];exact ad)
  have ah:Hid (∀W,Se w W->∀j v,(ap bp (G.take front))[j]?=some v->W.cell? (((Tw b 0):Addr).add j)=some v):=λW hW j v M=>by
   have ad:(ap bp G)[j]?=some v:=by
    have h:(ap bp (G.take front))=(ap bp G).take front:=by rw[<-fx bp 1 (λ_=>rfl),UG]
    rw[h,Sv]at M
    split at M
    ·exact M
    ·cases M
   rw[S8,R3];exact aa ((hW.block b (ai J.out)).trans J.out) (by rw[Tn];exact ad)
  have I:Hid ((ap bp (G.drop front)).length=(n-front)*1):=by show _=_;rw[bD bp 1 (λ_=>rfl),Sj,ae.out]
  have Q:Hid ((ap bp (G.take front)).length=front*1):=by show _=_;rw[bD bp 1 (λ_=>rfl),Sk,ae.out];congr 1;omega
  have O:Hid ((ap bp (List.replicate N none)).length=N):=by show _=_;rw[bD bp 1 (λ_=>rfl),SP,UG]
  have u:Hid (splice (splice (ap bp (List.replicate N none)) 0 (ap bp (G.drop front))) (n-front) (ap bp (G.take front))=ap bp (G.drop front++G.take front++List.replicate (N-n) none)):=by
   show _=_;have:=O.out;have:=I.out;have:=Q.out;rw[gP _ _ _ _ (by omega) (by omega),aT,aT,RW]
   congr 2
   rw[Q.out,show n-front+front*1=n*1 by omega,cu bp 1 (λ_=>rfl),UZ]
  obtain⟨Z0,ak⟩:=ea (ap bp (List.replicate N none));obtain⟨A1,hA1⟩:=ea (ap bp (G.drop front));obtain⟨A2,hA2⟩:=ea (ap bp (G.take front));have M1:Hid (∀v∈A1,v.oneCell'=true):=by show ∀v∈A1,_;rw[<-hA1];exact λv=>ji
  have M2:Hid (∀v∈A2,v.oneCell'=true):=by show ∀v∈A2,_;rw[<-hA2];exact λv=>ji
  rw[ak]at af O u;rw[hA1]at ac I u;rw[hA2]at ah Q u;clear ak hA1 hA2;(go_wp2_with fail)
  go_region_law (refine aJ rfl (.tmp 17) (.tmp 26) 267 267 rfl 61 1 underlying267 Tryz.size61 _ _ _ _ _ _ rfl rfl w.heap.size 0 Z0 61 af.out A1 (n-front) (Tz (by omega)).symm I.out (λ_=>⟨rfl,_,rfl,λj v M=>by first|exact ac.out _ S.drew j v M|simpa using ac.out _ S.drew j v M⟩) (by rw[I.out,O.out];omega) M1.out w.heap.size w S.drew (ge _) ?_;intro w4 am ab)
  all_goals(
   have f1:=(ab.cell (p:=(Tw g 1)) H).trans h1;have f2:=(ab.cell (p:=(Tw g 2)) H).trans h2;have e3:((n-front:Nat):Int)<=(N:Int):=by omega
   have e4:¬(N=n-front):=by omega
   have aj:Hid ((splice Z0 0 A1).length=N):=by show _=_;rw[Wq _ _ _ (by rw[I.out,O.out];omega),O.out]
   have ag:=aW am.out;obtain⟨Z1,al⟩:=ea (splice Z0 0 A1);rw[al]at ag u aj;clear am al;obtain⟨k,hk⟩:=ea (n-front);rw[hk]at u I e3 e4;have av:k+front=n:=by omega
   rw[hk];clear hk;(go_wp2_with fail)
   go_region_law (refine aJ rfl (.tmp 30) (.tmp 39) 267 267 rfl 61 1 underlying267 Tryz.size61 _ _ _ _ _ _ rfl rfl w.heap.size k Z1 61 ag.out A2 front (Tz (by omega)).symm Q.out (λ_=>⟨by first|rfl|simp,_,rfl,λj v M=>ah.out _ ab.drew j v M⟩) (by rw[Q.out,aj.out];omega) M2.out w.heap.size w ab.drew (ge _) ?_;intro w5 an Y))
  all_goals(
   clear f1 f2;have f1:=(Y.cell (p:=(Tw g 1)) H).trans h1;have f2:=(Y.cell (p:=(Tw g 2)) H).trans h2;have f3:=(Y.frozen (p:=(Tw g 1)) H).trans (FZ.out 1);have f4:=(Y.frozen (p:=(Tw g 2)) H).trans (FZ.out 2);have au:Hid (w5.heap[w.heap.size]?=some (.cells (ap bp (G.drop front++G.take front++List.replicate (N-n) none)).toArray 61 (0,0))):=by show _=_;rw[<-u.out];exact an.out
   clear an;(go_wp2_with fail);go_end0;exact⟨rfl,w5,Y,au.out,rfl⟩)
def RG.same {β:Type}{T e:TypeId}{enc:β->List Value}{own:Nat->Nat}{i:Nat}{w w':World}{g room:Nat}{sv:Value}{G:List β}{front:Nat}{l:List β}(h:RG T e enc own i w g room sv G front l) (u:w'.heap=w.heap):RG T e enc own i w' g room sv G front l:=
 ⟨by rw[u];exact h.blk,h.lab,h.r1,h.r2,h.len,by rw[u];exact h.row,h.hold⟩
end Go.Proofs.YthfjlkfeeglfmaaGreatDoor.Lw
namespace Go.Proofs.YthfjlkfeeglfmaaGreatDoor
open Go.Proofs.Tryz
open Lw
open Lx
open Go.RowKit
def Fr.same {i:Nat}{own own':Nat->Nat}{w W W':World}(h:Fr i own own' w W) (u:W'.heap=W.heap) (G:W'.os=W.os) (H:W'.tape=W.tape) (I:W'.output=W.output):Fr i own own' w W':=
 ⟨G.trans h.os,H.trans h.tape,I.trans h.output,by rw[u];exact h.size,by rw[u];exact h.block,h.old⟩
end Go.Proofs.YthfjlkfeeglfmaaGreatDoor
namespace Go.Proofs.YthfjlkfeeglfmaaGreatDoor.Lw
open Go.Proofs.Tryz
open Lx
open Go.RowKit
variable {i g room front b:Nat}{w W:World}{β:Type}{T e:TypeId}{sv:Value}
def dZ {β:Type}(T e:TypeId) (enc:β->List Value) (own:Nat->Nat) (i:Nat) (w w':World) (g room:Nat) (l:List β):Prop:=
 ∃own' sv zs front,Nf own' w'/\Fr i own own' w w'/\RG T e enc own' i w' g room sv zs front l
abbrev BK:=dZ (β:=Option Nat) 269 61 bp
def dZ.same {β:Type}{T e:TypeId}{enc:β->List Value}{own:Nat->Nat}{i:Nat}{w W W':World}{g room:Nat}{l:List β}(h:dZ T e enc own i w W g room l) (u:W'.heap=W.heap) (G:W'.os=W.os) (H:W'.tape=W.tape) (I:W'.output=W.output):dZ T e enc own i w W' g room l:=by
 obtain⟨own',sv,M,front,a,b,c⟩:=h;exact⟨own',sv,M,front,λk J=>a k (by rw[<-u];exact J),b.same u G H I,c.same u⟩
def dZ.trans {enc:β->List Value}{own u:Nat->Nat}{W':World}{l:List β}(f:Fr i own u w W) (h:dZ T e enc u i W W' g room l):dZ T e enc own i w W' g room l:=by
 obtain⟨own',sv,G,front,a,b,c⟩:=h;exact⟨own',sv,G,front,a,f.trans b,c⟩
def bU (w:World) (a:Addr) (v:Value):(w.setCell a v).heap.size=w.heap.size:=by show(w.heap.modify _ _).size=_;rw[TD]
def RG.widened {enc:β->List Value}{own:Nat->Nat}{N:Nat}{zs u:List β}{l:List β}(h:RG T e enc own i w g room sv zs front l) (J:Nf own w)
  (M:Below w.heap.size w W) (G:W.heap[w.heap.size]?=some (.cells (ap enc u).toArray e (0,0))) (hl:u.length=N) (Q:N<=room) (O:0<N) (Y:dW u 0 l) :
  ∃own',Nf own' ((W.setCell ⟨g,1,none⟩ (.slice (some ⟨w.heap.size,0,none⟩) N N)).setCell ⟨g,2,none⟩ (Tu 0)) /\
   Fr i own own' w ((W.setCell ⟨g,1,none⟩ (.slice (some ⟨w.heap.size,0,none⟩) N N)).setCell ⟨g,2,none⟩ (Tu 0)) /\
   RG T e enc own' i ((W.setCell ⟨g,1,none⟩ (.slice (some ⟨w.heap.size,0,none⟩) N N)).setCell ⟨g,2,none⟩ (Tu 0)) g room (.slice (some ⟨w.heap.size,0,none⟩) N N) u 0 l:=by
 have S:=ai h.blk;have I:=(M.block g S).trans h.blk;have aa:=ai G;have H:∀j,j<w.heap.size->own j≠i->j≠g:=λj _ Z e=>Z (by rw[e];exact h.lab)
 subst hl;refine⟨λk=>if k=w.heap.size then i else own k,?_,(((Fr.label M).set (g:=g) ((Eq (by omega)).trans h.lab) _ _ H).set (g:=g) ((Eq (by omega)).trans h.lab) _ _ H),?_⟩
 ·intro k hk;rw[bU,bU]at hk;exact(Eq (by omega)).trans (J k (by omega))
 ·refine⟨?_,(Eq (by omega)).trans h.lab,h.r1,h.r2,Q,.inr ⟨w.heap.size,rfl,?_,Or rfl,by omega,O⟩,Y⟩
  ·have:=ag (ag I 1 (.slice (some ⟨w.heap.size,0,none⟩) u.length u.length)) 2 (Tu 0);exact this
  ·exact az (az G (by omega) _) (by omega) _
def cz {α:Type}(Z:List α):splice Z 0 []=Z:=by simp[splice]
def xJ (g room:Nat) (w:World) (u:g<w.heap.size) (h0:w.cell? (Tw g 0)=some (Tu room)) (h1:w.cell? (Tw g 1)=some (.slice none 0 0)) (h2:w.cell? (Tw g 2)=some (Tu 0))
  (fz:∀k,w.frozen? (Tw g k)=false) (hr:1<=room) :
  Sa 174 #[.pointer (some (Tw g 0))] w λe w'=>Uk e (.tuple #[])/\∃W,Se w W/\W.heap[w.heap.size]?=some (.cells (ap bp [none]).toArray 61 (0,0)) /\
   w'=(W.setCell ⟨g,1,none⟩ (.slice (some ⟨w.heap.size,0,none⟩) 1 1)).setCell ⟨g,2,none⟩ (Tu 0):=by
 have HM:=Mk 1 (by omega);have FZ:=aW fz;clear fz;rw[show List.replicate 1 (none:Option Nat)=[none]from rfl,show((1:Nat):Int)=1 from rfl]at HM;obtain⟨I,ab⟩:=ea (ap bp [none]);rw[ab]at HM ⊢;have S:Hid (I.length=1):=by show _=_;rw[<-ab];rfl
 clear ab;have q3:max (1:Int) 0=1:=by omega
 by_cases hc:1<room
 ·have q2:(1:Int)<(room:Int):=by omega
  have q4:min (room:Int) 1=1:=by omega
  go_enter func174,ntmps174;(go_wp2_with fail)
  go_region;clear HM;obtain⟨W1,H⟩:=ea ((w.alloc (.cells I.toArray 61)).drew);have Y:Hid (W1.heap[w.heap.size]?=some (.cells I.toArray 61 (0,0))):=by show _=_;rw[<-H];exact Uh w _
  have J:Se w W1:=by rw[<-H];exact((gt _ w).alloc (ge _) _).drew
  rw[H];clear H;have d1:=(J.cell (p:=(Tw g 1)) u).trans h1;have d2:=(J.cell (p:=(Tw g 2)) u).trans h2;(go_wp2_with fail)
  go_region_law (refine aJ rfl (.tmp 17) (.tmp 26) 267 267 rfl 61 1 underlying267 Tryz.size61 _ _ _ _ _ _ rfl rfl w.heap.size 0 I 61 Y.out [] 0 (by first|rfl|simp) rfl (λh=>absurd h (by omega)) (by rw[S.out];exact RU _) (λ_ h=>nomatch h) w.heap.size w J.drew (ge _) ?_;intro w4 O M)
  all_goals(
   have f1:=(M.cell (p:=(Tw g 1)) u).trans h1;have f2:=(M.cell (p:=(Tw g 2)) u).trans h2;have Z:Hid (w4.heap[w.heap.size]?=some (.cells I.toArray 61 (0,0))):=by have:=O.out;rw[cz]at this;exact this
   clear O;(go_wp2_with fail)
   go_region_law (refine aJ rfl (.tmp 30) (.tmp 39) 267 267 rfl 61 1 underlying267 Tryz.size61 _ _ _ _ _ _ rfl rfl w.heap.size 0 I 61 Z.out [] 0 (by first|rfl|simp) rfl (λh=>absurd h (by omega)) (by rw[S.out];exact RU _) (λ_ h=>nomatch h) w.heap.size w M.drew (ge _) ?_;intro w5 Q G))
  all_goals(
   clear f1 f2;have f1:=(G.cell (p:=(Tw g 1)) u).trans h1;have f2:=(G.cell (p:=(Tw g 2)) u).trans h2;have f3:=(G.frozen (p:=(Tw g 1)) u).trans (FZ.out 1);have f4:=(G.frozen (p:=(Tw g 2)) u).trans (FZ.out 2);have aa:Hid (w5.heap[w.heap.size]?=some (.cells I.toArray 61 (0,0))):=by have:=Q.out;rw[cz]at this;exact this
   clear Q;(go_wp2_with fail);go_end0;exact⟨rfl,w5,G,aa.out,rfl⟩)
 ·have q2:¬((1:Int)<(room:Int)):=by omega
  obtain rfl:room=1:=by omega
  have q4:min (1:Int) 1=1:=by omega
  go_enter func174,ntmps174;(go_wp2_with fail)
  go_region;clear HM;obtain⟨W1,H⟩:=ea ((w.alloc (.cells I.toArray 61)).drew);have Y:Hid (W1.heap[w.heap.size]?=some (.cells I.toArray 61 (0,0))):=by show _=_;rw[<-H];exact Uh w _
  have J:Se w W1:=by rw[<-H];exact((gt _ w).alloc (ge _) _).drew
  rw[H];clear H;have d1:=(J.cell (p:=(Tw g 1)) u).trans h1;have d2:=(J.cell (p:=(Tw g 2)) u).trans h2;(go_wp2_with fail)
  go_region_law (refine aJ rfl (.tmp 17) (.tmp 26) 267 267 rfl 61 1 underlying267 Tryz.size61 _ _ _ _ _ _ rfl rfl w.heap.size 0 I 61 Y.out [] 0 (by first|rfl|simp) rfl (λh=>absurd h (by omega)) (by rw[S.out];exact RU _) (λ_ h=>nomatch h) w.heap.size w J.drew (ge _) ?_;intro w4 O M)
  all_goals(
   have f1:=(M.cell (p:=(Tw g 1)) u).trans h1;have f2:=(M.cell (p:=(Tw g 2)) u).trans h2;have Z:Hid (w4.heap[w.heap.size]?=some (.cells I.toArray 61 (0,0))):=by have:=O.out;rw[cz]at this;exact this
   clear O;(go_wp2_with fail)
   go_region_law (refine aJ rfl (.tmp 30) (.tmp 39) 267 267 rfl 61 1 underlying267 Tryz.size61 _ _ _ _ _ _ rfl rfl w.heap.size 0 I 61 Z.out [] 0 (by first|rfl|simp) rfl (λh=>absurd h (by omega)) (by rw[S.out];exact RU _) (λ_ h=>nomatch h) w.heap.size w M.drew (ge _) ?_;intro w5 Q G))
  all_goals(
   clear f1 f2;have f1:=(G.cell (p:=(Tw g 1)) u).trans h1;have f2:=(G.cell (p:=(Tw g 2)) u).trans h2;have f3:=(G.frozen (p:=(Tw g 1)) u).trans (FZ.out 1);have f4:=(G.frozen (p:=(Tw g 2)) u).trans (FZ.out 2);have aa:Hid (w5.heap[w.heap.size]?=some (.cells I.toArray 61 (0,0))):=by have:=Q.out;rw[cz]at this;exact this
   clear Q;(go_wp2_with fail);go_end0;exact⟨rfl,w5,G,aa.out,rfl⟩)
def xK (own:Nat->Nat) (i g room front:Nat) (sv:Value) (I l:List (Option Nat)) (w:World) (u:mZ own i w g room sv I front l) (M:Nf own w) (S:l.length=I.length) (hr:I.length<room) :
  Sa 174 #[.pointer (some (Tw g 0))] w λe w'=>Uk e (.tuple #[])/\∃own' b J,Nf own' w'/\Fr i own own' w w'/\mZ own' i w' g room (.slice (some (Tw b 0)) J.length J.length) J 0 l/\l.length<J.length:=by
 have Y:=ai u.blk
 rcases u.row with⟨rfl,rfl,rfl⟩|⟨b,rfl,hb,ab,aa,Q⟩
 ·refine(xJ g room w Y u.c0 u.c1 u.c2 u.fz u.r1).mono ?_;rintro e w'⟨rfl,W,O,H,rfl⟩;obtain rfl:l=[]:=R6 S;obtain⟨own',a,b,c⟩:=u.widened M O H rfl u.r1 (by simp) ⟨by simp,λi hi=>absurd hi (by simp)⟩;exact⟨rfl,own',w.heap.size,[none],a,b,c,by simp⟩
 ·have h2:=u.r2;obtain⟨N,hN⟩:∃N,N=min room (2*I.length):=⟨_,rfl⟩;have G:(I.drop front++I.take front++List.replicate (N-I.length) none).length=N:=by rw[IO,IO,Sj,Sk,SP];omega
  refine(uB g room I.length front N b none I w rfl Y u.c0 u.c1 u.c2 u.fz hb Q h2 (by omega) (by omega) (by omega)).mono ?_;rintro e w'⟨rfl,W,O,H,rfl⟩;obtain⟨own',a,b,c⟩:=u.widened M O H G (by omega) (by omega) (u.hold.widen (Z:=List.replicate (N-I.length) none) (by omega) S);refine⟨rfl,own',w.heap.size,_,a,b,by rw[G];exact c,by rw[G];omega⟩
def RG.put {β:Type}{T e:TypeId}{enc:β->List Value}{own:Nat->Nat}{i:Nat}{w W:World}{g room b:Nat}{G H:List β}{front u:Nat}{l l':List β}(h:RG T e enc own i w g room (.slice (some (Tw b 0)) G.length G.length) G front l)
  (Q:W.heap[g]?=some (.cells #[Tu room,.slice (some (Tw b 0)) G.length G.length,Tu u,Tu l'.length] T (0,0))) (O:W.heap[b]?=some (.cells (ap enc H).toArray e (0,0)))
  (I:b≠g) (M:own b=i) (hl:H.length=G.length) (J:u < G.length) (S:dW H u l'):RG T e enc own i W g room (.slice (some (Tw b 0)) G.length G.length) H u l':=
 ⟨Q,h.lab,h.r1,h.r2,by rw[hl];exact h.len,.inr ⟨b,by rw[hl],O,M,I,by rw[hl];exact J⟩,S⟩
def yh (g room:Nat) (x:Option Nat) (w:World) (u:w.cell? (Tw g 0)=some (Tu room)) (G:w.cell? (Tw g 3)=some (Tu room)) :
  Sa 107 #[.pointer (some (Tw g 0)),.pointer (pa x)] w λe w'=>Uk e (Tu 50)/\∃m,w'=w.drewN m:=by
 go_enter func107,ntmps107;(go_wp2_with fail)
 go_quiet (fail)
 (go_wp2_with fail);go_ret;exact⟨rfl,⟨_,rfl⟩⟩
def Cx (x:Option Nat) (w:World):Sa 107 #[.pointer none,.pointer (pa x)] w λe w'=>Uk e (Tu 3)/\w'=w:=by
 go_enter func107,ntmps107;(go_wp2_with fail)
 go_ret;exact⟨rfl,rfl⟩
def mZ.pushed {own:Nat->Nat}{u:List (Option Nat)}{l:List (Option Nat)}(h:mZ own i w g room (.slice (some (Tw b 0)) u.length u.length) u front l) (O:Nf own w) (I:w.heap[b]?=some (.cells (ap bp u).toArray 61 (0,0))) (H:own b=i) (G:b≠g) (J:front<u.length) (M:l.length<u.length) (x:Option Nat) :
  BK own i w ((w.setCell ⟨b,(front+l.length) % u.length,none⟩ (.pointer (pa x))).setCell ⟨g,3,none⟩ (Tu ((l.length:Int)+1))) g room (l++[x]):=by
 refine⟨own,_,_,front,λk Q=>O k (by rw[bU,bU]at Q;exact Q),((Fr.refl i own w).set' H _ _).set' h.lab _ _,h.put ?_ ?_ G H (TO) J (h.hold.push x M)⟩
 ·have:=ag (az h.blk (T5 G) (k:=(front+l.length) % u.length) (.pointer (pa x))) 3 (Tu ((l.length:Int)+1));rw[this];simp
 ·have:=az (ag I ((front+l.length) % u.length) (.pointer (pa x))) G (k:=3) (Tu ((l.length:Int)+1));rw[Di]at this;exact this
def Fu (own:Nat->Nat) (i g room front b:Nat) (G l:List (Option Nat)) (x:Option Nat) (w:World) (H:mZ own i w g room (.slice (some (Tw b 0)) G.length G.length) G front l) (M:Nf own w) (u:w.heap[b]?=some (.cells (ap bp G).toArray 61 (0,0))) (O:own b=i) (J:b≠g) (S:front<G.length) (Y:l.length<G.length) :
  Sa 107 #[.pointer (some (Tw g 0)),.pointer (pa x)] w λe w'=>Uk e (Tu 0)/\BK own i w w' g room (l++[x]):=by
 have I:Hid _:=H.pushed M u O J S Y x;have h0:=H.c0;have h1:=H.c1;have h2:=H.c2;have h3:=H.c3;have fz:=H.fz 3;have ac:=H.r2;have ad:=H.len;obtain⟨p,Q⟩:=ea ((front+l.length) % G.length);have Z:p<G.length:=by rw[<-Q];exact TS _ (by omega)
 rw[Q]at I;obtain⟨y,hy⟩:∃y,G[p]?=some y:=⟨_,Pi Z⟩;have hc:=aa u (iG hy);have ab:w.frozen? (Tw b p)=false:=aj u;have HC:=aW λW (a:W.cell? (Tw g 1)=some (.slice (some (Tw b 0)) G.length G.length)) (b:W.cell? (Tw g 2)=some (Tu front))=>xq g G.length front l.length p _ W a b (by omega) (by omega) (by omega) Q
 clear H M u O Q hy;generalize G.length=n at *;generalize hL:l.length=c at *;clear hL;have i1:(0:Int)<=(p:Int):=by omega
 have i2:(p:Int)<(n:Int):=by omega
 have q1:¬((c:Int)=(room:Int)):=by omega
 have q2:¬(c=room):=by omega
 have q3:¬((c:Int)=(n:Int)):=by omega
 have q4:¬(c=n):=by omega
 have q5:((c:Int)==(room:Int))=false:=by simp;omega
 have q6:((c:Int)==(n:Int))=false:=by simp;omega
 have q7:g≠b:=T5 J;go_enter func107,ntmps107;(go_wp2_with fail)
 go_quiet (fail)
 go_wp2_with fail
 go_quiet (fail)
 go_wp2_with fail
 go_region_with (go_at_call 175;refine(HC.out _ (by simpa using h1) (by simpa using h2)).mono ?_;rintro e w1⟨rfl,m,rfl⟩)
 all_goals go_wp2_with fail
 all_goals go_ret
 all_goals exact⟨rfl,dZ.same I.out rfl rfl rfl rfl⟩
def yf (own:Nat->Nat) (i g room front:Nat) (sv:Value) (Z l:List (Option Nat)) (x:Option Nat) (w:World) (O:mZ own i w g room sv Z front l) (ae:Nf own w) (hf:l.length=Z.length) (hr:Z.length<room) :
  Sa 107 #[.pointer (some (Tw g 0)),.pointer (pa x)] w λe w'=>Uk e (Tu 0)/\BK own i w w' g room (l++[x]):=by
 have HW:Hid (∀m,Sa 174 #[.pointer (some (Tw g 0))] (w.drewN m) λe w'=>Uk e (.tuple #[])/\∃own' b I,Nf own' w'/\Fr i own own' w w'/\mZ own' i w' g room (.slice (some (Tw b 0)) I.length I.length) I 0 l/\l.length<I.length):=λm=>
  (xK own i g room front sv Z l (w.drewN m) (O.same rfl) ae hf hr).mono (λe w' ⟨he,own',b,I,Y,M,h3⟩=>⟨he,own',b,I,Y,⟨M.os,M.tape,M.output,M.size,M.block,M.old⟩,h3⟩)
 have h0:=O.c0;have Y:=O.c1;have M:=O.c2;have h3:=O.c3;have am:=O.r2
 obtain⟨sp,ag⟩:∃sp,sv=.slice sp Z.length Z.length:=by
  rcases O.row with⟨rfl,rfl,_⟩|⟨b,rfl,_⟩
  ·exact⟨_,rfl⟩
  ·exact⟨_,rfl⟩
 rw[ag]at Y;rw[<-hf]at Y hr;clear O ae ag hf;generalize hL:l.length=c at *;have ab:=aW hL;clear hL;have q1:¬((c:Int)=(room:Int)):=by omega
 have q2:¬(c=room):=by omega
 have q5:((c:Int)==(room:Int))=false:=by simp;omega
 go_enter func107,ntmps107;(go_wp2_with fail)
 go_quiet (fail)
 go_wp2_with fail
 go_quiet (fail)
 (go_wp2_with fail);refine(HW.out _).mono ?_;rintro e w2⟨rfl,own2,b,H,S,Q,G,ah⟩;clear h0 Y M h3;have u:=G.row
 rcases u with⟨_,h,_⟩|⟨b',ac,u,af,ad,ai⟩
 ·cases h
 ·obtain rfl:b'=b:=by cases ac;rfl
  clear ac;have J:=aW (dZ.trans Q (G.pushed S u af ad ai (by rw[ab.out];exact ah) x));have h0:=G.c0;have Y:=G.c1;have M:=G.c2;have h3:=G.c3;have fz:=G.fz 3;have an:=G.len;rw[ab.out]at J h3;obtain⟨p,hp⟩:=ea ((0+c) % H.length);have ak:p<H.length:=by rw[<-hp];exact TS _ (by omega)
  rw[hp]at J;obtain⟨y,hy⟩:∃y,H[p]?=some y:=⟨_,Pi ak⟩;have hc:=aa u (iG hy);have al:w2.frozen? (Tw b' p)=false:=aj u;have HC:=aW λW (a:W.cell? (Tw g 1)=some (.slice (some (Tw b' 0)) H.length H.length)) (b:W.cell? (Tw g 2)=some (Tu (0:Nat)))=>xq g H.length 0 c p _ W a b (by omega) (by omega) (by omega) hp
  clear G S Q u af hp hy HW;generalize H.length=n at *;have i1:(0:Int)<=(p:Int):=by omega
  have i2:(p:Int)<(n:Int):=by omega
  have q7:g≠b':=T5 ad;(go_wp2_with fail)
  go_region_with (go_at_call 175;refine(HC.out _ (by simpa using Y) (by simpa using M)).mono ?_;rintro e w1⟨rfl,m,rfl⟩)
  all_goals go_wp2_with fail
  all_goals go_ret
  all_goals exact⟨rfl,dZ.same J.out rfl rfl rfl rfl⟩
def qN (own:Nat->Nat) (i g room front:Nat) (sv:Value) (I l:List (Option Nat)) (x:Option Nat) (w:World) (H:mZ own i w g room sv I front l) (u:Nf own w) (Z:l.length<room) :
  Sa 107 #[.pointer (some (Tw g 0)),.pointer (pa x)] w λe w'=>Uk e (Tu 0)/\BK own i w w' g room (l++[x]):=by
 have J:=H.hold.1
 by_cases M:l.length=I.length
 ·exact yf own i g room front sv I l x w H u M (by omega)
 ·have G:=H.row
  rcases G with⟨rfl,_,_⟩|⟨b,rfl,O,Q,S,Y⟩
  ·rw[List.length_nil]at J M;omega
  ·exact Fu own i g room front b I l x w H u O Q S Y (by omega)
def RG.nonempty {enc:β->List Value}{own:Nat->Nat}{u:List β}{l:List β}(h:RG T e enc own i w g room sv u front l) (hl:0<l.length) :
  ∃b,sv=.slice (some (Tw b 0)) u.length u.length/\w.heap[b]?=some (.cells (ap enc u).toArray e (0,0))/\own b=i/\b≠g/\front<u.length:=by
 rcases h.row with⟨rfl,_,_⟩|G
 ·have:=h.hold.1;rw[List.length_nil]at this;omega
 ·exact G
def mZ.popped {own:Nat->Nat}{H:List (Option Nat)}{l l':List (Option Nat)}(h:mZ own i w g room (.slice (some (Tw b 0)) H.length H.length) H front l) (O:Nf own w) (J:w.heap[b]?=some (.cells (ap bp H).toArray 61 (0,0))) (I:own b=i) (G:b≠g) (p u:Nat) (M:u < H.length) (c:Int) (hc:c=(l'.length:Int)) (S:dW (H.set p none) u l') :
  BK own i w (((w.setCell ⟨b,p,none⟩ (.pointer none)).setCell ⟨g,2,none⟩ (Tu u)).setCell ⟨g,3,none⟩ (Tu c)) g room l':=by
 subst hc;refine⟨own,_,_,u,λk Q=>O k (by rw[bU,bU,bU]at Q;exact Q),(((Fr.refl i own w).set' I _ _).set' h.lab _ _).set' h.lab _ _,h.put ?_ ?_ G I (TO) M S⟩
 ·have:=ag (ag (az h.blk (T5 G) (k:=p) (.pointer none)) 2 (Tu u)) 3 (Tu (l'.length:Int));rw[this];simp
 ·have:=az (az (ag J p (.pointer none)) G (k:=2) (Tu u)) G (k:=3) (Tu (l'.length:Int));rw[rf]at this;exact this
def mZ.poppedB {own:Nat->Nat}{G:List (Option Nat)}{l l':List (Option Nat)}(h:mZ own i w g room (.slice (some (Tw b 0)) G.length G.length) G front l) (M:Nf own w) (I:w.heap[b]?=some (.cells (ap bp G).toArray 61 (0,0))) (H:own b=i) (u:b≠g) (p:Nat) (J:front<G.length) (c:Int) (hc:c=(l'.length:Int)) (Q:dW (G.set p none) front l') :
  BK own i w ((w.setCell ⟨b,p,none⟩ (.pointer none)).setCell ⟨g,3,none⟩ (Tu c)) g room l':=by
 subst hc;refine⟨own,_,_,front,λk O=>M k (by rw[bU,bU]at O;exact O),((Fr.refl i own w).set' H _ _).set' h.lab _ _,h.put ?_ ?_ u H (TO) J Q⟩
 ·have:=ag (az h.blk (T5 u) (k:=p) (.pointer none)) 3 (Tu (l'.length:Int));rw[this];simp
 ·have:=az (ag I p (.pointer none)) u (k:=3) (Tu (l'.length:Int));rw[rf]at this;exact this
def CF (own:Nat->Nat) (i g room front:Nat) (sv:Value) (H l:List (Option Nat)) (x:Option Nat) (w:World) (u:mZ own i w g room sv H front l) (M:Nf own w) (S:l[0]?=some x) :
  Sa 119 #[.pointer (some (Tw g 0))] w λe w'=>Uk e (.tuple #[.pointer (pa x),Tu 0])/\BK own i w w' g room l.tail:=by
 have I:0<l.length:=(RY.1 S).1;obtain⟨b,rfl,G,O,J,ad⟩:=u.nonempty I;have ae:=u.hold.1;have af:=u.r2;have ag:=u.len;have h1:=u.c1;have h2:=u.c2;have h3:=u.c3;have ab:=u.fz 2;have ac:=u.fz 3;obtain⟨p,hp⟩:=ea ((front+0) % H.length);obtain⟨q,hq⟩:=ea ((front+1) % H.length);have Z:p<H.length:=by rw[<-hp];exact TS _ (by omega)
 have hqn:q<H.length:=by rw[<-hq];exact TS _ (by omega)
 have hy:H[p]?=some x:=by rw[<-hp,<-u.hold.2 0 I];exact S
 have Q:Hid _:=u.popped M G O J p q hqn ((l.length:Int)-1) (l':=l.tail) (by rw[Vw];omega) (by have:=u.hold.popFront none I;rw[hp,hq]at this;exact this);have hc:=aa G (iG hy);have Y:w.frozen? (Tw b p)=false:=aj G;have HS:=aW (L5 g l.length w h3 I);have HE:=aW (G0 g H.length front 0 p b x w h1 h2 Z (by omega) (by omega) hp hc Y);have HC:=aW λW (a:W.cell? (Tw g 1)=some (.slice (some (Tw b 0)) H.length H.length)) (b:W.cell? (Tw g 2)=some (Tu front))=>xq g H.length front 1 q _ W a b (by omega) (by omega) (by omega) hq
 clear M G O hp hq hy S;have q7:g≠b:=T5 J
 have D1:Hid (∀m,((w.drewN m).setCell ⟨b,p,none⟩ (.pointer none)).cell? (Tw g 1)=some (.slice (some (Tw b 0)) H.length H.length)/\((w.drewN m).setCell ⟨b,p,none⟩ (.pointer none)).cell? (Tw g 2)=some (Tu front)):=λm=>by
  have:=az (W:=w.drewN m) (k:=p) u.blk q7 (.pointer none);exact⟨aa this rfl,aa this rfl⟩
 clear u;generalize H.length=n at *;generalize hL:l.length=c at *;clear hL;go_enter func119,ntmps119;(go_wp2_with fail);refine HS.out.mono ?_;rintro e w1⟨rfl,rfl⟩;(go_wp2_with fail);refine HE.out.mono ?_;rintro e w2⟨rfl,m,rfl⟩;(go_wp2_with fail);refine(HC.out _ (D1.out m).1 (D1.out m).2).mono ?_;rintro e w3⟨rfl,m2,rfl⟩;(go_wp2_with fail);go_ret2;exact⟨rfl,dZ.same Q.out rfl rfl rfl rfl⟩
def CH (own:Nat->Nat) (i g room front:Nat) (sv:Value) (I l:List (Option Nat)) (x:Option Nat) (w:World) (G:mZ own i w g room sv I front l) (M:Nf own w) (H:0<l.length) (hx:l[l.length-1]?=some x) :
  Sa 183 #[.pointer (some (Tw g 0))] w λe w'=>Uk e (.tuple #[.pointer (pa x),Tu 0])/\BK own i w w' g room l.dropLast:=by
 obtain⟨b,rfl,u,O,J,Y⟩:=G.nonempty H;have ac:=G.hold.1;have ad:=G.r2;have ae:=G.len;have h1:=G.c1;have h2:=G.c2;have h3:=G.c3;have ab:=G.fz 3;obtain⟨p,hp⟩:=ea ((front+(l.length-1)) % I.length);have Z:p<I.length:=by rw[<-hp];exact TS _ (by omega)
 have hy:I[p]?=some x:=by rw[<-hp,<-G.hold.2 (l.length-1) (by omega)];exact hx
 have Q:Hid _:=G.poppedB M u O J p Y ((l.length:Int)-1) (l':=l.dropLast) (by rw[VC];omega) (by have:=G.hold.popBack none H;rw[hp]at this;exact this);have hc:=aa u (iG hy);have S:w.frozen? (Tw b p)=false:=aj u;have HS:=aW (L5 g l.length w h3 H)
 have HE:Hid (Sa 180 #[.pointer (some (Tw g 0)),Tu ((l.length:Int)-1)] w λe w'=>Uk e (.pointer (pa x))/\∃m,w'=(w.drewN m).setCell ⟨b,p,none⟩ (.pointer none)):=by
  have:=G0 g I.length front (l.length-1) p b x w h1 h2 Z (by omega) (by omega) hp hc S;rw[show((l.length-1:Nat):Int)=(l.length:Int)-1 by omega]at this;exact this
 clear M u O hp hy hx;have q7:g≠b:=T5 J;clear G;generalize I.length=n at *;generalize hL:l.length=c at *;clear hL;go_enter func183,ntmps183;(go_wp2_with fail);refine HS.out.mono ?_;rintro e w1⟨rfl,rfl⟩;(go_wp2_with fail);refine HE.out.mono ?_;rintro e w2⟨rfl,m,rfl⟩;(go_wp2_with fail);go_ret2;exact⟨rfl,dZ.same Q.out rfl rfl rfl rfl⟩
def BB (k:Int) (w:World):Sa 111 #[.pointer none,Tu k] w λe w'=>Uk e (.tuple #[.pointer none,Tu 3])/\w'=w:=by
 go_enter func111,ntmps111;(go_wp2_with fail)
 refine(uz _ _).mono ?_;rintro e u⟨rfl,rfl⟩;(go_wp2_with fail);go_ret2;exact⟨rfl,rfl⟩
def BC (own:Nat->Nat) (i g room front k:Nat) (sv:Value) (G l:List (Option Nat)) (x:Option Nat) (w:World) (u:mZ own i w g room sv G front l) (J:l[k]?=some x) :
  Sa 111 #[.pointer (some (Tw g 0)),Tu k] w λe w'=>Uk e (.tuple #[.pointer (pa x),Tu 0])/\∃m,w'=w.drewN m:=by
 have I:k<l.length:=(RY.1 J).1;obtain⟨b,rfl,H,M,ab,ac⟩:=u.nonempty (by omega);have ad:=u.hold.1;have af:=u.r2;have ag:=u.len;have S:=u.c1;have Y:=u.c2;have Z:=u.c3;obtain⟨p,hp⟩:=ea ((front+k) % G.length);have ae:p<G.length:=by rw[<-hp];exact TS _ (by omega)
 have O:G[p]?=some x:=by rw[<-hp,<-u.hold.2 k I];exact J
 have hc:=aa H (iG O);have Q:=aW (Je g l.length k w Z I);have HC:=aW λW (a:W.cell? (Tw g 1)=some (.slice (some (Tw b 0)) G.length G.length)) (b:W.cell? (Tw g 2)=some (Tu front))=>xq g G.length front k p _ W a b (by omega) (by omega) (by omega) hp
 clear u H M hp O J I;generalize G.length=n at *;have i1:(0:Int)<=(p:Int):=by omega
 have i2:(p:Int)<(n:Int):=by omega
 go_enter func111,ntmps111;(go_wp2_with fail)
 refine Q.out.mono ?_;rintro e w1⟨rfl,rfl⟩;(go_wp2_with fail)
 go_quiet ((go_at_call 175;exact Calls.quiet_of (HC.out _ (by simpa using S) (by simpa using Y))))
 (go_wp2_with fail);go_ret2;exact⟨rfl,⟨_,rfl⟩⟩
