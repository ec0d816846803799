import Derived.Test.YthfjlkfeeglfmaaGreatDoorM10
import Derived.Test.YthfjlkfeeglfmaaGreatDoorM13
set_option linter.all false
set_option maxHeartbeats 1000000
set_option maxRecDepth 100000
namespace Go.Proofs.YthfjlkfeeglfmaaGreatDoor.Lw
open Go.Proofs.Tryz
open Lx
open Go.RowKit
section
variable {i g room b front:Nat}
def bm (x:Option Nat):List Value:=[.pointer (pa x)]
def pB (u:List (Option Nat)):ap bm u=u.map (λx=>Value.pointer (pa x)):=by
 induction u with
 |nil=>rfl
 |cons x r ih=>rw[ei,ih];rfl
def iF {u:List (Option Nat)}{k:Nat}{x:Option Nat}(h:u[k]?=some x):(ap bm u).toArray[k]?=some (.pointer (pa x)):=by
 rw[pB];simp[h]
def ra (u:List (Option Nat)) (k:Nat):(ap bm u).toArray.setIfInBounds k (.pointer none)=(ap bm (u.set k none)).toArray:=by
 rw[pB,pB,T6,V2];rfl
def Dh (u:List (Option Nat)) (k:Nat) (x:Option Nat):(ap bm u).toArray.setIfInBounds k (.pointer (pa x))=(ap bm (u.set k x)).toArray:=by
 rw[pB,pB,T6,V2]
abbrev qu:=RG (β:=Option Nat) 177 109 bm
def xp (g n front k p:Nat) (H:Option Addr) (w:World) (I:w.cell? (Tw g 1)=some (.slice H n n)) (J:w.cell? (Tw g 2)=some (Tu front)) (Q:0<n) (M:front<=2097152) (O:k<=2097152) (u:(front+k) % n=p) :
  Sa 177 #[.pointer (some (Tw g 0)),Tu k] w λe w'=>Uk e (Tu p)/\∃m,w'=w.drewN m:=by
 have S:¬((n:Int)=0):=by omega
 have G:Hid (((front:Int)+(k:Int)) % (n:Int)=(p:Int)):=by show _=_;rw[<-u];simp
 clear u;go_enter func177,ntmps177;(go_wp2_with fail)
 go_quiet (fail)
 (go_wp2_with fail);go_ret;exact⟨Sh (λz=>Ending.returned (Tu z)) G.out,⟨_,rfl⟩⟩
def L4 (g c:Nat) (w:World) (h:w.cell? (Tw g 3)=some (Tu c)) (hc:0<c):Sa 181 #[.pointer (some (Tw g 0))] w λe w'=>Uk e (Tu 0)/\w'=w:=by
 have u:((c:Int)==0)=false:=by simp;omega
 have G:¬((c:Int)=0):=by omega
 have H:¬(c=0):=by omega
 go_enter func181,ntmps181;(go_wp2_with fail)
 go_ret;exact⟨rfl,rfl⟩
def ux (g:Nat) (k:Int) (w:World) (u:k<0):Sa 224 #[.pointer (some (Tw g 0)),Tu k] w λe w'=>Uk e (Tu 1)/\w'=w:=by
 have G:decide (k<0)=true:=by simp;omega
 go_enter func224,ntmps224;(go_wp2_with fail)
 go_ret;exact⟨rfl,rfl⟩
def uw (g c:Nat) (k:Int) (w:World) (h:w.cell? (Tw g 3)=some (Tu c)) (u:(c:Int)<=k):Sa 224 #[.pointer (some (Tw g 0)),Tu k] w λe w'=>Uk e (Tu 1)/\w'=w:=by
 have G:decide (k<0)=false:=by simp;omega
 have H:decide ((c:Int)<=k)=true:=by simp;omega
 go_enter func224,ntmps224;(go_wp2_with fail)
 go_ret;exact⟨rfl,rfl⟩
def Jd (g c k:Nat) (w:World) (h:w.cell? (Tw g 3)=some (Tu c)) (u:k<c):Sa 224 #[.pointer (some (Tw g 0)),Tu k] w λe w'=>Uk e (Tu 0)/\w'=w:=by
 have G:decide ((k:Int)<0)=false:=by simp
 have H:decide ((c:Int)<=(k:Int))=false:=by simp;omega
 have I:¬((c:Int)<=(k:Int)):=by omega
 have J:¬(c<=k):=by omega
 go_enter func224,ntmps224;(go_wp2_with fail)
 go_ret;exact⟨rfl,rfl⟩
def QC (g c:Nat) (w:World) (h:w.cell? (Tw g 3)=some (Tu c)):Sa 173 #[.pointer (some (Tw g 0))] w λe w'=>Uk e (Tu c)/\w'=w:=by
 go_enter func173,ntmps173;(go_wp2_with fail)
 go_ret;exact⟨rfl,rfl⟩
def Qy (k:Nat) (w:World) (u:1<=k) (G:k<=2097152):Sa 37 #[Tu k] w λe w'=>Uk e (.tuple #[.pointer (some ⟨w.heap.size,0,none⟩),Tu 0])/\w'=w.alloc (.cells #[Tu k,.slice none 0 0,Tu 0,Tu 0] 177):=by
 have H:decide ((k:Int)<1)=false:=by simp;omega
 have I:decide (2097152<(k:Int))=false:=by simp;omega
 have J:¬((k:Int)<1):=by omega
 have M:¬(2097152<(k:Int)):=by omega
 go_enter func37,ntmps37;(go_wp2_with fail)
 go_ret2;exact⟨rfl,rfl⟩
def GZ (g n front k p b:Nat) (x:Option Nat) (w:World) (G:w.cell? (Tw g 1)=some (.slice (some (Tw b 0)) n n)) (H:w.cell? (Tw g 2)=some (Tu front)) (O:p<n) (I:front<=2097152) (J:k<=2097152) (u:(front+k) % n=p)
  (Q:w.cell? (Tw b p)=some (.pointer (pa x))) (M:w.frozen? (Tw b p)=false) :
  Sa 182 #[.pointer (some (Tw g 0)),Tu k] w λe w'=>Uk e (.pointer (pa x))/\∃m,w'=(w.drewN m).setCell ⟨b,p,none⟩ (.pointer none):=by
 have HC:=aW λW (a:W.cell? (Tw g 1)=some (.slice (some (Tw b 0)) n n)) (b:W.cell? (Tw g 2)=some (Tu front))=>xp g n front k p _ W a b (by omega) I J u
 have S:(0:Int)<=(p:Int):=by omega
 have Y:(p:Int)<(n:Int):=by omega
 clear u;go_enter func182,ntmps182;(go_wp2_with fail);refine(HC.out _ G H).mono ?_;rintro e Z⟨rfl,m,rfl⟩;(go_wp2_with fail);go_ret;exact⟨rfl,m,rfl⟩
def Tryz.info109:(Tryz.prog.info? 109).map (λi=>(i.zero,i.size,i.bytes))=some (some (.pointer none),1,8):=by kernel_rfl
def Tryz.size109:(Tryz.prog.info? 109).map (·.size)=some 1:=by kernel_rfl
def Mj (N:Nat) (M:N<=2097152) (w:World):(Instr.makeSlice 175 (Tu (N:Int)) (Tu (N:Int))).run Tryz.prog w=.ok (.slice (some ⟨w.heap.size,0,none⟩) N N) (w.alloc (.cells (ap bm (List.replicate N none)).toArray 109)):=by
 obtain⟨J,I,u,G,H⟩:=Tf Tryz.info109;have h:=run_make (P:=Tryz.prog) w 175 109 J (.pointer none) underlying175 I u .i64 .i64 (N:Int) (N:Int) (by omega) (by omega) (by rw[H];omega) (by omega)
 have hc:madeCells (Value.pointer none).cells ((N:Int).toNat*1)=(ap bm (List.replicate N none)).toArray:=by
  rw[pB]
  apply TJ.1
  show(madeCells #[.pointer none] _).toList=_;rw[VB];simp
 rw[h,G,hc,Tg]
def jh {u:List (Option Nat)}{v:Value}(h:v∈ap bm u):v.oneCell'=true:=by
 rw[pB]at h;obtain⟨x,_,rfl⟩:=TY.1 h;rfl
def uA (g room n front N b:Nat) (x:Option Nat) (G:List (Option Nat)) (w:World) (aq:G.length=n) (H:g<w.heap.size) (h0:w.cell? (Tw g 0)=some (Tu room)) (h1:w.cell? (Tw g 1)=some (.slice (some (Tw b 0)) n n)) (h2:w.cell? (Tw g 2)=some (Tu front))
  (fz:∀k,w.frozen? (Tw g k)=false)
  (ar:w.heap[b]?=some (.cells (ap bm G).toArray 109 (0,0))) (aw:front<n)
  (hr:room<=2097152) (hn:n<N) (hN:N<=room) (c:(2*n<room/\N=2*n)\/(room<=2*n/\N=room)) :
  Sa 176 #[.pointer (some (Tw g 0))] w λe w'=>Uk e (.tuple #[])/\∃W,Se w W/\W.heap[w.heap.size]?=some (.cells (ap bm (G.drop front++G.take front++List.replicate (N-n) none)).toArray 109 (0,0)) /\
   w'=(W.setCell ⟨g,1,none⟩ (.slice (some ⟨w.heap.size,0,none⟩) N N)).setCell ⟨g,2,none⟩ (Tu 0):=by
 have HM:=Mj N (by omega);have J:=aW ar;have ae:=aW aq;have FZ:=aW fz;have q1:(1:Int)<2*(n:Int):=by omega
 have q3:max (1:Int) (2*(n:Int))=2*(n:Int):=by omega
 clear ar aq fz
 rcases c with⟨c1,c2⟩|⟨c1,c2⟩
 ·have q2:2*(n:Int)<(room:Int):=by omega
  have q4:min (room:Int) (2*(n:Int))=2*(n:Int):=by omega
  rw[show((N:Nat):Int)=2*(n:Int)by omega]at HM;clear c1 c2;go_enter func176,ntmps176;(go_wp2_with fail);go_region;clear HM;obtain⟨W1,Z⟩:=ea ((w.alloc (.cells (ap bm (List.replicate N none)).toArray 109)).drew);have af:Hid (W1.heap[w.heap.size]?=some (.cells (ap bm (List.replicate N none)).toArray 109 (0,0))):=by show _=_;rw[<-Z];exact Uh w _
  have S:Se w W1:=by rw[<-Z];exact((gt _ w).alloc (ge _) _).drew
  rw[Z];clear Z;have d1:=(S.cell (p:=(Tw g 1)) H).trans h1;have d2:=(S.cell (p:=(Tw g 2)) H).trans h2;have e1:(front:Int)<=(n:Int):=by omega
  have e2:¬(n=front):=by omega
  have ac:Hid (∀W,Se w W->∀j v,(ap bm (G.drop front))[j]?=some v->W.cell? (((Tw b front):Addr).add j)=some v):=λW hW j v M=>by
   have ad:(ap bm G)[front+j]?=some v:=by
    rw[<-Sl,show front=front*1 by omega,cu bm 1 (λ_=>rfl)];exact M
   rw[S8];exact aa ((hW.block b (ai J.out)).trans J.out) (by rw[Tn];exact ad)
  have ah:Hid (∀W,Se w W->∀j v,(ap bm (G.take front))[j]?=some v->W.cell? (((Tw b 0):Addr).add j)=some v):=λW hW j v M=>by
   have ad:(ap bm G)[j]?=some v:=by
    have h:(ap bm (G.take front))=(ap bm G).take front:=by rw[<-fx bm 1 (λ_=>rfl),UG]
    rw[h,Sv]at M
    split at M
    ·exact M
    ·cases M
   rw[S8,R3];exact aa ((hW.block b (ai J.out)).trans J.out) (by rw[Tn];exact ad)
  have I:Hid ((ap bm (G.drop front)).length=(n-front)*1):=by show _=_;rw[bD bm 1 (λ_=>rfl),Sj,ae.out]
  have Q:Hid ((ap bm (G.take front)).length=front*1):=by show _=_;rw[bD bm 1 (λ_=>rfl),Sk,ae.out];congr 1;omega
  have O:Hid ((ap bm (List.replicate N none)).length=N):=by show _=_;rw[bD bm 1 (λ_=>rfl),SP,UG]
  have u:Hid (splice (splice (ap bm (List.replicate N none)) 0 (ap bm (G.drop front))) (n-front) (ap bm (G.take front))=ap bm (G.drop front++G.take front++List.replicate (N-n) none)):=by
   show _=_;have:=O.out;have:=I.out;have:=Q.out;rw[gP _ _ _ _ (by omega) (by omega),aT,aT,RW]
   congr 2
   rw[Q.out,show n-front+front*1=n*1 by omega,cu bm 1 (λ_=>rfl),UZ]
  obtain⟨Z0,ak⟩:=ea (ap bm (List.replicate N none));obtain⟨A1,hA1⟩:=ea (ap bm (G.drop front));obtain⟨A2,hA2⟩:=ea (ap bm (G.take front));have M1:Hid (∀v∈A1,v.oneCell'=true):=by show ∀v∈A1,_;rw[<-hA1];exact λv=>jh
  have M2:Hid (∀v∈A2,v.oneCell'=true):=by show ∀v∈A2,_;rw[<-hA2];exact λv=>jh
  rw[ak]at af O u;rw[hA1]at ac I u;rw[hA2]at ah Q u;clear ak hA1 hA2;(go_wp2_with fail)
  go_region_law (refine aJ rfl (.tmp 17) (.tmp 26) 175 175 rfl 109 1 underlying175 Tryz.size109 _ _ _ _ _ _ rfl rfl w.heap.size 0 Z0 109 af.out A1 (n-front) (Tz (by omega)).symm I.out (λ_=>⟨rfl,_,rfl,λj v M=>by first|exact ac.out _ S.drew j v M|simpa using ac.out _ S.drew j v M⟩) (by rw[I.out,O.out];omega) M1.out w.heap.size w S.drew (ge _) ?_;intro w4 am ab)
  all_goals(
   have f1:=(ab.cell (p:=(Tw g 1)) H).trans h1;have f2:=(ab.cell (p:=(Tw g 2)) H).trans h2;have e3:((n-front:Nat):Int)<=(N:Int):=by omega
   have e4:¬(N=n-front):=by omega
   have aj:Hid ((splice Z0 0 A1).length=N):=by show _=_;rw[Wq _ _ _ (by rw[I.out,O.out];omega),O.out]
   have ag:=aW am.out;obtain⟨Z1,al⟩:=ea (splice Z0 0 A1);rw[al]at ag u aj;clear am al;obtain⟨k,hk⟩:=ea (n-front);rw[hk]at u I e3 e4;have av:k+front=n:=by omega
   rw[hk];clear hk;(go_wp2_with fail)
   go_region_law (refine aJ rfl (.tmp 30) (.tmp 39) 175 175 rfl 109 1 underlying175 Tryz.size109 _ _ _ _ _ _ rfl rfl w.heap.size k Z1 109 ag.out A2 front (Tz (by omega)).symm Q.out (λ_=>⟨by first|rfl|simp,_,rfl,λj v M=>ah.out _ ab.drew j v M⟩) (by rw[Q.out,aj.out];omega) M2.out w.heap.size w ab.drew (ge _) ?_;intro w5 an Y))
  all_goals(
   clear f1 f2;have f1:=(Y.cell (p:=(Tw g 1)) H).trans h1;have f2:=(Y.cell (p:=(Tw g 2)) H).trans h2;have f3:=(Y.frozen (p:=(Tw g 1)) H).trans (FZ.out 1);have f4:=(Y.frozen (p:=(Tw g 2)) H).trans (FZ.out 2);have au:Hid (w5.heap[w.heap.size]?=some (.cells (ap bm (G.drop front++G.take front++List.replicate (N-n) none)).toArray 109 (0,0))):=by show _=_;rw[<-u.out];exact an.out
   clear an;(go_wp2_with fail);go_end0;exact⟨rfl,w5,Y,au.out,rfl⟩)
 ·have q2:¬(2*(n:Int)<(room:Int)):=by omega
  have q4:min (room:Int) (2*(n:Int))=(room:Int):=by omega
  rw[show((N:Nat):Int)=(room:Int)by omega]at HM;clear c1 c2;go_enter func176,ntmps176;(go_wp2_with fail);go_region;clear HM;obtain⟨W1,Z⟩:=ea ((w.alloc (.cells (ap bm (List.replicate N none)).toArray 109)).drew);have af:Hid (W1.heap[w.heap.size]?=some (.cells (ap bm (List.replicate N none)).toArray 109 (0,0))):=by show _=_;rw[<-Z];exact Uh w _
  have S:Se w W1:=by rw[<-Z];exact((gt _ w).alloc (ge _) _).drew
  rw[Z];clear Z;have d1:=(S.cell (p:=(Tw g 1)) H).trans h1;have d2:=(S.cell (p:=(Tw g 2)) H).trans h2;have e1:(front:Int)<=(n:Int):=by omega
  have e2:¬(n=front):=by omega
  have ac:Hid (∀W,Se w W->∀j v,(ap bm (G.drop front))[j]?=some v->W.cell? (((Tw b front):Addr).add j)=some v):=λW hW j v M=>by
   have ad:(ap bm G)[front+j]?=some v:=by
    rw[<-Sl,show front=front*1 by omega,cu bm 1 (λ_=>rfl)];exact M
   rw[S8];exact aa ((hW.block b (ai J.out)).trans J.out) (by rw[Tn];exact ad)
  have ah:Hid (∀W,Se w W->∀j v,(ap bm (G.take front))[j]?=some v->W.cell? (((Tw b 0):Addr).add j)=some v):=λW hW j v M=>by
   have ad:(ap bm G)[j]?=some v:=by
    have h:(ap bm (G.take front))=(ap bm G).take front:=by rw[<-fx bm 1 (λ_=>rfl),UG]
    rw[h,Sv]at M
    split at M
    ·exact M
    ·cases M
   rw[S8,R3];exact aa ((hW.block b (ai J.out)).trans J.out) (by rw[Tn];exact ad)
  have I:Hid ((ap bm (G.drop front)).length=(n-front)*1):=by show _=_;rw[bD bm 1 (λ_=>rfl),Sj,ae.out]
  have Q:Hid ((ap bm (G.take front)).length=front*1):=by show _=_;rw[bD bm 1 (λ_=>rfl),Sk,ae.out];congr 1;omega
  have O:Hid ((ap bm (List.replicate N none)).length=N):=by show _=_;rw[bD bm 1 (λ_=>rfl),SP,UG]
  have u:Hid (splice (splice (ap bm (List.replicate N none)) 0 (ap bm (G.drop front))) (n-front) (ap bm (G.take front))=ap bm (G.drop front++G.take front++List.replicate (N-n) none)):=by
   show _=_;have:=O.out;have:=I.out;have:=Q.out;rw[gP _ _ _ _ (by omega) (by omega),aT,aT,RW]
   congr 2
   rw[Q.out,show n-front+front*1=n*1 by omega,cu bm 1 (λ_=>rfl),UZ]
  obtain⟨Z0,ak⟩:=ea (ap bm (List.replicate N none));obtain⟨A1,hA1⟩:=ea (ap bm (G.drop front));obtain⟨A2,hA2⟩:=ea (ap bm (G.take front));have M1:Hid (∀v∈A1,v.oneCell'=true):=by show ∀v∈A1,_;rw[<-hA1];exact λv=>jh
  have M2:Hid (∀v∈A2,v.oneCell'=true):=by show ∀v∈A2,_;rw[<-hA2];exact λv=>jh
  rw[ak]at af O u;rw[hA1]at ac I u;rw[hA2]at ah Q u;clear ak hA1 hA2;(go_wp2_with fail)
  go_region_law (refine aJ rfl (.tmp 17) (.tmp 26) 175 175 rfl 109 1 underlying175 Tryz.size109 _ _ _ _ _ _ rfl rfl w.heap.size 0 Z0 109 af.out A1 (n-front) (Tz (by omega)).symm I.out (λ_=>⟨rfl,_,rfl,λj v M=>by first|exact ac.out _ S.drew j v M|simpa using ac.out _ S.drew j v M⟩) (by rw[I.out,O.out];omega) M1.out w.heap.size w S.drew (ge _) ?_;intro w4 am ab)
  all_goals(
   have f1:=(ab.cell (p:=(Tw g 1)) H).trans h1;have f2:=(ab.cell (p:=(Tw g 2)) H).trans h2;have e3:((n-front:Nat):Int)<=(N:Int):=by omega
   have e4:¬(N=n-front):=by omega
   have aj:Hid ((splice Z0 0 A1).length=N):=by show _=_;rw[Wq _ _ _ (by rw[I.out,O.out];omega),O.out]
   have ag:=aW am.out;obtain⟨Z1,al⟩:=ea (splice Z0 0 A1);rw[al]at ag u aj;clear am al;obtain⟨k,hk⟩:=ea (n-front);rw[hk]at u I e3 e4;have av:k+front=n:=by omega
   rw[hk];clear hk;(go_wp2_with fail)
   go_region_law (refine aJ rfl (.tmp 30) (.tmp 39) 175 175 rfl 109 1 underlying175 Tryz.size109 _ _ _ _ _ _ rfl rfl w.heap.size k Z1 109 ag.out A2 front (Tz (by omega)).symm Q.out (λ_=>⟨by first|rfl|simp,_,rfl,λj v M=>ah.out _ ab.drew j v M⟩) (by rw[Q.out,aj.out];omega) M2.out w.heap.size w ab.drew (ge _) ?_;intro w5 an Y))
  all_goals(
   clear f1 f2;have f1:=(Y.cell (p:=(Tw g 1)) H).trans h1;have f2:=(Y.cell (p:=(Tw g 2)) H).trans h2;have f3:=(Y.frozen (p:=(Tw g 1)) H).trans (FZ.out 1);have f4:=(Y.frozen (p:=(Tw g 2)) H).trans (FZ.out 2);have au:Hid (w5.heap[w.heap.size]?=some (.cells (ap bm (G.drop front++G.take front++List.replicate (N-n) none)).toArray 109 (0,0))):=by show _=_;rw[<-u.out];exact an.out
   clear an;(go_wp2_with fail);go_end0;exact⟨rfl,w5,Y,au.out,rfl⟩)
abbrev IP:=dZ (β:=Option Nat) 177 109 bm
def xH (g room:Nat) (w:World) (u:g<w.heap.size) (h0:w.cell? (Tw g 0)=some (Tu room)) (h1:w.cell? (Tw g 1)=some (.slice none 0 0)) (h2:w.cell? (Tw g 2)=some (Tu 0))
  (fz:∀k,w.frozen? (Tw g k)=false) (hr:1<=room) :
  Sa 176 #[.pointer (some (Tw g 0))] w λe w'=>Uk e (.tuple #[])/\∃W,Se w W/\W.heap[w.heap.size]?=some (.cells (ap bm [none]).toArray 109 (0,0)) /\
   w'=(W.setCell ⟨g,1,none⟩ (.slice (some ⟨w.heap.size,0,none⟩) 1 1)).setCell ⟨g,2,none⟩ (Tu 0):=by
 have HM:=Mj 1 (by omega);have FZ:=aW fz;clear fz;rw[show List.replicate 1 (none:Option Nat)=[none]from rfl,show((1:Nat):Int)=1 from rfl]at HM;obtain⟨I,ab⟩:=ea (ap bm [none]);rw[ab]at HM ⊢;have S:Hid (I.length=1):=by show _=_;rw[<-ab];rfl
 clear ab;have q3:max (1:Int) 0=1:=by omega
 by_cases hc:1<room
 ·have q2:(1:Int)<(room:Int):=by omega
  have q4:min (room:Int) 1=1:=by omega
  go_enter func176,ntmps176;(go_wp2_with fail)
  go_region;clear HM;obtain⟨W1,H⟩:=ea ((w.alloc (.cells I.toArray 109)).drew);have Y:Hid (W1.heap[w.heap.size]?=some (.cells I.toArray 109 (0,0))):=by show _=_;rw[<-H];exact Uh w _
  have J:Se w W1:=by rw[<-H];exact((gt _ w).alloc (ge _) _).drew
  rw[H];clear H;have d1:=(J.cell (p:=(Tw g 1)) u).trans h1;have d2:=(J.cell (p:=(Tw g 2)) u).trans h2;(go_wp2_with fail)
  go_region_law (refine aJ rfl (.tmp 17) (.tmp 26) 175 175 rfl 109 1 underlying175 Tryz.size109 _ _ _ _ _ _ rfl rfl w.heap.size 0 I 109 Y.out [] 0 (by first|rfl|simp) rfl (λh=>absurd h (by omega)) (by rw[S.out];exact RU _) (λ_ h=>nomatch h) w.heap.size w J.drew (ge _) ?_;intro w4 O M)
  all_goals(
   have f1:=(M.cell (p:=(Tw g 1)) u).trans h1;have f2:=(M.cell (p:=(Tw g 2)) u).trans h2;have Z:Hid (w4.heap[w.heap.size]?=some (.cells I.toArray 109 (0,0))):=by have:=O.out;rw[cz]at this;exact this
   clear O;(go_wp2_with fail)
   go_region_law (refine aJ rfl (.tmp 30) (.tmp 39) 175 175 rfl 109 1 underlying175 Tryz.size109 _ _ _ _ _ _ rfl rfl w.heap.size 0 I 109 Z.out [] 0 (by first|rfl|simp) rfl (λh=>absurd h (by omega)) (by rw[S.out];exact RU _) (λ_ h=>nomatch h) w.heap.size w M.drew (ge _) ?_;intro w5 Q G))
  all_goals(
   clear f1 f2;have f1:=(G.cell (p:=(Tw g 1)) u).trans h1;have f2:=(G.cell (p:=(Tw g 2)) u).trans h2;have f3:=(G.frozen (p:=(Tw g 1)) u).trans (FZ.out 1);have f4:=(G.frozen (p:=(Tw g 2)) u).trans (FZ.out 2);have aa:Hid (w5.heap[w.heap.size]?=some (.cells I.toArray 109 (0,0))):=by have:=Q.out;rw[cz]at this;exact this
   clear Q;(go_wp2_with fail);go_end0;exact⟨rfl,w5,G,aa.out,rfl⟩)
 ·have q2:¬((1:Int)<(room:Int)):=by omega
  obtain rfl:room=1:=by omega
  have q4:min (1:Int) 1=1:=by omega
  go_enter func176,ntmps176;(go_wp2_with fail)
  go_region;clear HM;obtain⟨W1,H⟩:=ea ((w.alloc (.cells I.toArray 109)).drew);have Y:Hid (W1.heap[w.heap.size]?=some (.cells I.toArray 109 (0,0))):=by show _=_;rw[<-H];exact Uh w _
  have J:Se w W1:=by rw[<-H];exact((gt _ w).alloc (ge _) _).drew
  rw[H];clear H;have d1:=(J.cell (p:=(Tw g 1)) u).trans h1;have d2:=(J.cell (p:=(Tw g 2)) u).trans h2;(go_wp2_with fail)
  go_region_law (refine aJ rfl (.tmp 17) (.tmp 26) 175 175 rfl 109 1 underlying175 Tryz.size109 _ _ _ _ _ _ rfl rfl w.heap.size 0 I 109 Y.out [] 0 (by first|rfl|simp) rfl (λh=>absurd h (by omega)) (by rw[S.out];exact RU _) (λ_ h=>nomatch h) w.heap.size w J.drew (ge _) ?_;intro w4 O M)
  all_goals(
   have f1:=(M.cell (p:=(Tw g 1)) u).trans h1;have f2:=(M.cell (p:=(Tw g 2)) u).trans h2;have Z:Hid (w4.heap[w.heap.size]?=some (.cells I.toArray 109 (0,0))):=by have:=O.out;rw[cz]at this;exact this
   clear O;(go_wp2_with fail)
   go_region_law (refine aJ rfl (.tmp 30) (.tmp 39) 175 175 rfl 109 1 underlying175 Tryz.size109 _ _ _ _ _ _ rfl rfl w.heap.size 0 I 109 Z.out [] 0 (by first|rfl|simp) rfl (λh=>absurd h (by omega)) (by rw[S.out];exact RU _) (λ_ h=>nomatch h) w.heap.size w M.drew (ge _) ?_;intro w5 Q G))
  all_goals(
   clear f1 f2;have f1:=(G.cell (p:=(Tw g 1)) u).trans h1;have f2:=(G.cell (p:=(Tw g 2)) u).trans h2;have f3:=(G.frozen (p:=(Tw g 1)) u).trans (FZ.out 1);have f4:=(G.frozen (p:=(Tw g 2)) u).trans (FZ.out 2);have aa:Hid (w5.heap[w.heap.size]?=some (.cells I.toArray 109 (0,0))):=by have:=Q.out;rw[cz]at this;exact this
   clear Q;(go_wp2_with fail);go_end0;exact⟨rfl,w5,G,aa.out,rfl⟩)
def xI (own:Nat->Nat) (i g room front:Nat) (sv:Value) (I l:List (Option Nat)) (w:World) (u:qu own i w g room sv I front l) (M:Nf own w) (S:l.length=I.length) (hr:I.length<room) :
  Sa 176 #[.pointer (some (Tw g 0))] w λe w'=>Uk e (.tuple #[])/\∃own' b J,Nf own' w'/\Fr i own own' w w'/\qu own' i w' g room (.slice (some (Tw b 0)) J.length J.length) J 0 l/\l.length<J.length:=by
 have Y:=ai u.blk
 rcases u.row with⟨rfl,rfl,rfl⟩|⟨b,rfl,hb,ab,aa,Q⟩
 ·refine(xH g room w Y u.c0 u.c1 u.c2 u.fz u.r1).mono ?_;rintro e w'⟨rfl,W,O,H,rfl⟩;obtain rfl:l=[]:=R6 S;obtain⟨own',a,b,c⟩:=u.widened M O H rfl u.r1 (by simp) ⟨by simp,λi hi=>absurd hi (by simp)⟩;exact⟨rfl,own',w.heap.size,[none],a,b,c,by simp⟩
 ·have h2:=u.r2;obtain⟨N,hN⟩:∃N,N=min room (2*I.length):=⟨_,rfl⟩;have G:(I.drop front++I.take front++List.replicate (N-I.length) none).length=N:=by rw[IO,IO,Sj,Sk,SP];omega
  refine(uA g room I.length front N b none I w rfl Y u.c0 u.c1 u.c2 u.fz hb Q h2 (by omega) (by omega) (by omega)).mono ?_;rintro e w'⟨rfl,W,O,H,rfl⟩;obtain⟨own',a,b,c⟩:=u.widened M O H G (by omega) (by omega) (u.hold.widen (Z:=List.replicate (N-I.length) none) (by omega) S);refine⟨rfl,own',w.heap.size,_,a,b,by rw[G];exact c,by rw[G];omega⟩
def qu.pushed {own:Nat->Nat}{w:World}{u:List (Option Nat)}{l:List (Option Nat)}(h:qu own i w g room (.slice (some (Tw b 0)) u.length u.length) u front l) (O:Nf own w) (I:w.heap[b]?=some (.cells (ap bm u).toArray 109 (0,0))) (H:own b=i) (G:b≠g) (J:front<u.length) (M:l.length<u.length) (x:Option Nat) :
  IP own i w ((w.setCell ⟨b,(front+l.length) % u.length,none⟩ (.pointer (pa x))).setCell ⟨g,3,none⟩ (Tu ((l.length:Int)+1))) g room (l++[x]):=by
 refine⟨own,_,_,front,λk Q=>O k (by rw[bU,bU]at Q;exact Q),((Fr.refl i own w).set' H _ _).set' h.lab _ _,h.put ?_ ?_ G H (TO) J (h.hold.push x M)⟩
 ·have:=ag (az h.blk (T5 G) (k:=(front+l.length) % u.length) (.pointer (pa x))) 3 (Tu ((l.length:Int)+1));rw[this];simp
 ·have:=az (ag I ((front+l.length) % u.length) (.pointer (pa x))) G (k:=3) (Tu ((l.length:Int)+1));rw[Dh]at this;exact this
def Fs (own:Nat->Nat) (i g room front b:Nat) (G l:List (Option Nat)) (x:Option Nat) (w:World) (H:qu own i w g room (.slice (some (Tw b 0)) G.length G.length) G front l) (M:Nf own w) (u:w.heap[b]?=some (.cells (ap bm G).toArray 109 (0,0))) (O:own b=i) (J:b≠g) (S:front<G.length) (Y:l.length<G.length) :
  Sa 109 #[.pointer (some (Tw g 0)),.pointer (pa x)] w λe w'=>Uk e (Tu 0)/\IP own i w w' g room (l++[x]):=by
 have I:Hid _:=H.pushed M u O J S Y x;have h0:=H.c0;have h1:=H.c1;have h2:=H.c2;have h3:=H.c3;have fz:=H.fz 3;have ac:=H.r2;have ad:=H.len;obtain⟨p,Q⟩:=ea ((front+l.length) % G.length);have Z:p<G.length:=by rw[<-Q];exact TS _ (by omega)
 rw[Q]at I;obtain⟨y,hy⟩:∃y,G[p]?=some y:=⟨_,Pi Z⟩;have hc:=aa u (iF hy);have ab:w.frozen? (Tw b p)=false:=aj u;have HC:=aW λW (a:W.cell? (Tw g 1)=some (.slice (some (Tw b 0)) G.length G.length)) (b:W.cell? (Tw g 2)=some (Tu front))=>xp g G.length front l.length p _ W a b (by omega) (by omega) (by omega) Q
 clear H M u O Q hy;generalize G.length=n at *;generalize hL:l.length=c at *;clear hL;have i1:(0:Int)<=(p:Int):=by omega
 have i2:(p:Int)<(n:Int):=by omega
 have q1:¬((c:Int)=(room:Int)):=by omega
 have q2:¬(c=room):=by omega
 have q3:¬((c:Int)=(n:Int)):=by omega
 have q4:¬(c=n):=by omega
 have q5:((c:Int)==(room:Int))=false:=by simp;omega
 have q6:((c:Int)==(n:Int))=false:=by simp;omega
 have q7:g≠b:=T5 J;go_enter func109,ntmps109;(go_wp2_with fail)
 go_quiet (fail)
 go_wp2_with fail
 go_quiet (fail)
 go_wp2_with fail
 go_region_with (go_at_call 177;refine(HC.out _ (by simpa using h1) (by simpa using h2)).mono ?_;rintro e w1⟨rfl,m,rfl⟩)
 all_goals go_wp2_with fail
 all_goals go_ret
 all_goals exact⟨rfl,dZ.same I.out rfl rfl rfl rfl⟩
def ye (own:Nat->Nat) (i g room front:Nat) (sv:Value) (Z l:List (Option Nat)) (x:Option Nat) (w:World) (O:qu own i w g room sv Z front l) (ae:Nf own w) (hf:l.length=Z.length) (hr:Z.length<room) :
  Sa 109 #[.pointer (some (Tw g 0)),.pointer (pa x)] w λe w'=>Uk e (Tu 0)/\IP own i w w' g room (l++[x]):=by
 have HW:Hid (∀m,Sa 176 #[.pointer (some (Tw g 0))] (w.drewN m) λe w'=>Uk e (.tuple #[])/\∃own' b I,Nf own' w'/\Fr i own own' w w'/\qu own' i w' g room (.slice (some (Tw b 0)) I.length I.length) I 0 l/\l.length<I.length):=λm=>
  (xI own i g room front sv Z l (w.drewN m) (O.same rfl) ae hf hr).mono (λe w' ⟨he,own',b,I,Y,M,h3⟩=>⟨he,own',b,I,Y,⟨M.os,M.tape,M.output,M.size,M.block,M.old⟩,h3⟩)
 have h0:=O.c0;have Y:=O.c1;have M:=O.c2;have h3:=O.c3;have am:=O.r2
 obtain⟨sp,ag⟩:∃sp,sv=.slice sp Z.length Z.length:=by
  rcases O.row with⟨rfl,rfl,_⟩|⟨b,rfl,_⟩
  ·exact⟨_,rfl⟩
  ·exact⟨_,rfl⟩
 rw[ag]at Y;rw[<-hf]at Y hr;clear O ae ag hf;generalize hL:l.length=c at *;have ab:=aW hL;clear hL;have q1:¬((c:Int)=(room:Int)):=by omega
 have q2:¬(c=room):=by omega
 have q5:((c:Int)==(room:Int))=false:=by simp;omega
 go_enter func109,ntmps109;(go_wp2_with fail)
 go_quiet (fail)
 go_wp2_with fail
 go_quiet (fail)
 (go_wp2_with fail);refine(HW.out _).mono ?_;rintro e w2⟨rfl,own2,b,H,S,Q,G,ah⟩;clear h0 Y M h3;have u:=G.row
 rcases u with⟨_,h,_⟩|⟨b',ac,u,af,ad,ai⟩
 ·cases h
 ·obtain rfl:b'=b:=by cases ac;rfl
  clear ac;have J:=aW (dZ.trans Q (G.pushed S u af ad ai (by rw[ab.out];exact ah) x));have h0:=G.c0;have Y:=G.c1;have M:=G.c2;have h3:=G.c3;have fz:=G.fz 3;have an:=G.len;rw[ab.out]at J h3;obtain⟨p,hp⟩:=ea ((0+c) % H.length);have ak:p<H.length:=by rw[<-hp];exact TS _ (by omega)
  rw[hp]at J;obtain⟨y,hy⟩:∃y,H[p]?=some y:=⟨_,Pi ak⟩;have hc:=aa u (iF hy);have al:w2.frozen? (Tw b' p)=false:=aj u;have HC:=aW λW (a:W.cell? (Tw g 1)=some (.slice (some (Tw b' 0)) H.length H.length)) (b:W.cell? (Tw g 2)=some (Tu (0:Nat)))=>xp g H.length 0 c p _ W a b (by omega) (by omega) (by omega) hp
  clear G S Q u af hp hy HW;generalize H.length=n at *;have i1:(0:Int)<=(p:Int):=by omega
  have i2:(p:Int)<(n:Int):=by omega
  have q7:g≠b':=T5 ad;(go_wp2_with fail)
  go_region_with (go_at_call 177;refine(HC.out _ (by simpa using Y) (by simpa using M)).mono ?_;rintro e w1⟨rfl,m,rfl⟩)
  all_goals go_wp2_with fail
  all_goals go_ret
  all_goals exact⟨rfl,dZ.same J.out rfl rfl rfl rfl⟩
def Cw (own:Nat->Nat) (i g room front:Nat) (sv:Value) (I l:List (Option Nat)) (x:Option Nat) (w:World) (H:qu own i w g room sv I front l) (u:Nf own w) (Z:l.length<room) :
  Sa 109 #[.pointer (some (Tw g 0)),.pointer (pa x)] w λe w'=>Uk e (Tu 0)/\IP own i w w' g room (l++[x]):=by
 have J:=H.hold.1
 by_cases M:l.length=I.length
 ·exact ye own i g room front sv I l x w H u M (by omega)
 ·have G:=H.row
  rcases G with⟨rfl,_,_⟩|⟨b,rfl,O,Q,S,Y⟩
  ·rw[List.length_nil]at J M;omega
  ·exact Fs own i g room front b I l x w H u O Q S Y (by omega)
def qu.popped {own:Nat->Nat}{w:World}{H:List (Option Nat)}{l l':List (Option Nat)}(h:qu own i w g room (.slice (some (Tw b 0)) H.length H.length) H front l) (O:Nf own w) (J:w.heap[b]?=some (.cells (ap bm H).toArray 109 (0,0))) (I:own b=i) (G:b≠g) (p u:Nat) (M:u < H.length) (c:Int) (hc:c=(l'.length:Int)) (S:dW (H.set p none) u l') :
  IP own i w (((w.setCell ⟨b,p,none⟩ (.pointer none)).setCell ⟨g,2,none⟩ (Tu u)).setCell ⟨g,3,none⟩ (Tu c)) g room l':=by
 subst hc;refine⟨own,_,_,u,λk Q=>O k (by rw[bU,bU,bU]at Q;exact Q),(((Fr.refl i own w).set' I _ _).set' h.lab _ _).set' h.lab _ _,h.put ?_ ?_ G I (TO) M S⟩
 ·have:=ag (ag (az h.blk (T5 G) (k:=p) (.pointer none)) 2 (Tu u)) 3 (Tu (l'.length:Int));rw[this];simp
 ·have:=az (az (ag J p (.pointer none)) G (k:=2) (Tu u)) G (k:=3) (Tu (l'.length:Int));rw[ra]at this;exact this
def qu.poppedB {own:Nat->Nat}{w:World}{G:List (Option Nat)}{l l':List (Option Nat)}(h:qu own i w g room (.slice (some (Tw b 0)) G.length G.length) G front l) (M:Nf own w) (I:w.heap[b]?=some (.cells (ap bm G).toArray 109 (0,0))) (H:own b=i) (u:b≠g) (p:Nat) (J:front<G.length) (c:Int) (hc:c=(l'.length:Int)) (Q:dW (G.set p none) front l') :
  IP own i w ((w.setCell ⟨b,p,none⟩ (.pointer none)).setCell ⟨g,3,none⟩ (Tu c)) g room l':=by
 subst hc;refine⟨own,_,_,front,λk O=>M k (by rw[bU,bU]at O;exact O),((Fr.refl i own w).set' H _ _).set' h.lab _ _,h.put ?_ ?_ u H (TO) J Q⟩
 ·have:=ag (az h.blk (T5 u) (k:=p) (.pointer none)) 3 (Tu (l'.length:Int));rw[this];simp
 ·have:=az (ag I p (.pointer none)) u (k:=3) (Tu (l'.length:Int));rw[ra]at this;exact this
def CE (own:Nat->Nat) (i g room front:Nat) (sv:Value) (H l:List (Option Nat)) (x:Option Nat) (w:World) (u:qu own i w g room sv H front l) (M:Nf own w) (S:l[0]?=some x) :
  Sa 121 #[.pointer (some (Tw g 0))] w λe w'=>Uk e (.tuple #[.pointer (pa x),Tu 0])/\IP own i w w' g room l.tail:=by
 have I:0<l.length:=(RY.1 S).1;obtain⟨b,rfl,G,O,J,ad⟩:=u.nonempty I;have ae:=u.hold.1;have af:=u.r2;have ag:=u.len;have h1:=u.c1;have h2:=u.c2;have h3:=u.c3;have ab:=u.fz 2;have ac:=u.fz 3;obtain⟨p,hp⟩:=ea ((front+0) % H.length);obtain⟨q,hq⟩:=ea ((front+1) % H.length);have Z:p<H.length:=by rw[<-hp];exact TS _ (by omega)
 have hqn:q<H.length:=by rw[<-hq];exact TS _ (by omega)
 have hy:H[p]?=some x:=by rw[<-hp,<-u.hold.2 0 I];exact S
 have Q:Hid _:=u.popped M G O J p q hqn ((l.length:Int)-1) (l':=l.tail) (by rw[Vw];omega) (by have:=u.hold.popFront none I;rw[hp,hq]at this;exact this);have hc:=aa G (iF hy);have Y:w.frozen? (Tw b p)=false:=aj G;have HS:=aW (L4 g l.length w h3 I);have HE:=aW (GZ g H.length front 0 p b x w h1 h2 Z (by omega) (by omega) hp hc Y);have HC:=aW λW (a:W.cell? (Tw g 1)=some (.slice (some (Tw b 0)) H.length H.length)) (b:W.cell? (Tw g 2)=some (Tu front))=>xp g H.length front 1 q _ W a b (by omega) (by omega) (by omega) hq
 clear M G O hp hq hy S;have q7:g≠b:=T5 J
 have D1:Hid (∀m,((w.drewN m).setCell ⟨b,p,none⟩ (.pointer none)).cell? (Tw g 1)=some (.slice (some (Tw b 0)) H.length H.length)/\((w.drewN m).setCell ⟨b,p,none⟩ (.pointer none)).cell? (Tw g 2)=some (Tu front)):=λm=>by
  have:=az (W:=w.drewN m) (k:=p) u.blk q7 (.pointer none);exact⟨aa this rfl,aa this rfl⟩
 clear u;generalize H.length=n at *;generalize hL:l.length=c at *;clear hL;go_enter func121,ntmps121;(go_wp2_with fail);refine HS.out.mono ?_;rintro e w1⟨rfl,rfl⟩;(go_wp2_with fail);refine HE.out.mono ?_;rintro e w2⟨rfl,m,rfl⟩;(go_wp2_with fail);refine(HC.out _ (D1.out m).1 (D1.out m).2).mono ?_;rintro e w3⟨rfl,m2,rfl⟩;(go_wp2_with fail);go_ret2;exact⟨rfl,dZ.same Q.out rfl rfl rfl rfl⟩
def CG (own:Nat->Nat) (i g room front:Nat) (sv:Value) (I l:List (Option Nat)) (x:Option Nat) (w:World) (G:qu own i w g room sv I front l) (M:Nf own w) (H:0<l.length) (hx:l[l.length-1]?=some x) :
  Sa 184 #[.pointer (some (Tw g 0))] w λe w'=>Uk e (.tuple #[.pointer (pa x),Tu 0])/\IP own i w w' g room l.dropLast:=by
 obtain⟨b,rfl,u,O,J,Y⟩:=G.nonempty H;have ac:=G.hold.1;have ad:=G.r2;have ae:=G.len;have h1:=G.c1;have h2:=G.c2;have h3:=G.c3;have ab:=G.fz 3;obtain⟨p,hp⟩:=ea ((front+(l.length-1)) % I.length);have Z:p<I.length:=by rw[<-hp];exact TS _ (by omega)
 have hy:I[p]?=some x:=by rw[<-hp,<-G.hold.2 (l.length-1) (by omega)];exact hx
 have Q:Hid _:=G.poppedB M u O J p Y ((l.length:Int)-1) (l':=l.dropLast) (by rw[VC];omega) (by have:=G.hold.popBack none H;rw[hp]at this;exact this);have hc:=aa u (iF hy);have S:w.frozen? (Tw b p)=false:=aj u;have HS:=aW (L4 g l.length w h3 H)
 have HE:Hid (Sa 182 #[.pointer (some (Tw g 0)),Tu ((l.length:Int)-1)] w λe w'=>Uk e (.pointer (pa x))/\∃m,w'=(w.drewN m).setCell ⟨b,p,none⟩ (.pointer none)):=by
  have:=GZ g I.length front (l.length-1) p b x w h1 h2 Z (by omega) (by omega) hp hc S;rw[show((l.length-1:Nat):Int)=(l.length:Int)-1 by omega]at this;exact this
 clear M u O hp hy hx;have q7:g≠b:=T5 J;clear G;generalize I.length=n at *;generalize hL:l.length=c at *;clear hL;go_enter func184,ntmps184;(go_wp2_with fail);refine HS.out.mono ?_;rintro e w1⟨rfl,rfl⟩;(go_wp2_with fail);refine HE.out.mono ?_;rintro e w2⟨rfl,m,rfl⟩;(go_wp2_with fail);go_ret2;exact⟨rfl,dZ.same Q.out rfl rfl rfl rfl⟩
def uy (g c:Nat) (k:Int) (w:World) (h:w.cell? (Tw g 3)=some (Tu c)) (u:k<0\/(c:Int)<=k):Sa 224 #[.pointer (some (Tw g 0)),Tu k] w λe w'=>Uk e (Tu 1)/\w'=w:=by
 rcases u with u|u
 ·exact ux g k w u
 ·exact uw g c k w h u
def LP (g c:Nat) (k:Int) (w:World) (h:w.cell? (Tw g 3)=some (Tu c)) (u:k<0\/(c:Int)<=k):Sa 172 #[.pointer (some (Tw g 0)),Tu k] w λe w'=>Uk e (.tuple #[.pointer none,Tu 1])/\w'=w:=by
 have H:=aW (uy g c k w h u);clear h u;go_enter func172,ntmps172;(go_wp2_with fail);refine(Hid.out H).mono ?_;rintro e G⟨rfl,rfl⟩;(go_wp2_with fail);go_ret2;exact⟨rfl,rfl⟩
def LQ (own:Nat->Nat) (i g room front k:Nat) (sv:Value) (G l:List (Option Nat)) (x:Option Nat) (w:World) (u:qu own i w g room sv G front l) (J:l[k]?=some x) :
  Sa 172 #[.pointer (some (Tw g 0)),Tu k] w λe w'=>Uk e (.tuple #[.pointer (pa x),Tu 0])/\∃m,w'=w.drewN m:=by
 have I:k<l.length:=(RY.1 J).1;obtain⟨b,rfl,H,M,ab,ac⟩:=u.nonempty (by omega);have ad:=u.hold.1;have af:=u.r2;have ag:=u.len;have S:=u.c1;have Y:=u.c2;have Z:=u.c3;obtain⟨p,hp⟩:=ea ((front+k) % G.length);have ae:p<G.length:=by rw[<-hp];exact TS _ (by omega)
 have O:G[p]?=some x:=by rw[<-hp,<-u.hold.2 k I];exact J
 have hc:=aa H (iF O);have Q:=aW (Jd g l.length k w Z I);have HC:=aW λW (a:W.cell? (Tw g 1)=some (.slice (some (Tw b 0)) G.length G.length)) (b:W.cell? (Tw g 2)=some (Tu front))=>xp g G.length front k p _ W a b (by omega) (by omega) (by omega) hp
 clear u H M hp O J I;generalize G.length=n at *;have i1:(0:Int)<=(p:Int):=by omega
 have i2:(p:Int)<(n:Int):=by omega
 go_enter func172,ntmps172;(go_wp2_with fail)
 refine Q.out.mono ?_;rintro e w1⟨rfl,rfl⟩;(go_wp2_with fail)
 go_quiet ((go_at_call 177;exact Calls.quiet_of (HC.out _ (by simpa using S) (by simpa using Y))))
 (go_wp2_with fail);go_ret2;exact⟨rfl,⟨_,rfl⟩⟩
def gy {p:Prop}(h:p):Hid p:=h
structure cA (P:Nat->Prop) (own own':Nat->Nat) (w w':World):Prop where
 os:w'.os=w.os
 tape:w'.tape=w.tape
 output:w'.output=w.output
 size:w.heap.size<=w'.heap.size
 block:∀k,k<w.heap.size->¬P (own k)->w'.heap[k]?=w.heap[k]?
 old:∀k,k<w.heap.size->¬P (own k)->own' k=own k
section
variable {P:Nat->Prop} {own own' own2:Nat->Nat} {w w' w2:World}
def cA.refl (P:Nat->Prop) (own:Nat->Nat) (w:World):cA P own own w w:=⟨rfl,rfl,rfl,ge _,λ_ _ _=>rfl,λ_ _ _=>rfl⟩
def cA.trans (h:cA P own own' w w') (k:cA P own' own2 w' w2):cA P own own2 w w2:=
 ⟨k.os.trans h.os,k.tape.trans h.tape,k.output.trans h.output,PI h.size k.size,
 λj G u=>(k.block j (R4 G h.size) (by rw[h.old j G u];exact u)).trans (h.block j G u),
 λj G u=>(k.old j (R4 G h.size) (by rw[h.old j G u];exact u)).trans (h.old j G u)⟩
def _root_.Go.Proofs.YthfjlkfeeglfmaaGreatDoor.Fr.toP {i:Nat}(h:Fr i own own' w w') (H:P i):cA P own own' w w':=
 ⟨h.os,h.tape,h.output,h.size,λk u G=>h.block k u (λe=>G (by rw[e];exact H)),λk u _=>h.old k u⟩
def cA.of_below (h:Below w.heap.size w w'):cA P own own w w':=⟨h.os,h.tape,h.output,h.size,λk u _=>h.block k u,λ_ _ _=>rfl⟩
def RG.keptP {β:Type}{T e:TypeId}{enc:β->List Value}{i g room:Nat}{sv:Value}{M:List β}{front:Nat}{l:List β}(h:RG T e enc own i w g room sv M front l) (u:cA P own own' w w') (G:¬P i):RG T e enc own' i w' g room sv M front l:=by
 refine⟨(u.block g (ai h.blk) (by rw[h.lab];exact G)).trans h.blk,(u.old g (ai h.blk) (by rw[h.lab];exact G)).trans h.lab,h.r1,h.r2,h.len,?_,h.hold⟩
 rcases h.row with H|⟨b,H,I,J,O,Q⟩
 ·exact .inl H
 ·exact .inr ⟨b,H,(u.block b (ai I) (by rw[J];exact G)).trans I,(u.old b (ai I) (by rw[J];exact G)).trans J,O,Q⟩
def vg {i e sz n:Nat}{v:Value}{xs:List Value}(M:cA P own own' w w') (O:¬P i) (h:w.ownsRow 0 e sz v n xs/\∀k,v.ownBlock=some k->own k=i):w'.ownsRow 0 e sz v n xs/\∀k,v.ownBlock=some k->own' k=i:=by
 obtain⟨u,G⟩:=h;refine⟨⟨u.1,?_⟩,λk H=>?_⟩
 ·rcases u.2 with Q|⟨g,cap,I,rfl,S,J,Y⟩
  ·exact .inl Q
  ·exact .inr ⟨g,cap,I,rfl,S,(M.block g (ai J) (by rw[G g rfl];exact O)).trans J,Y⟩
 ·rw[M.old k (u.lt k H).2 (by rw[G k H];exact O)];exact G k H
def SK.keptP {i g:Nat}{s:cX}(h:SK own i w g s) (u:cA P own own' w w') (G:¬P i):SK own' i w' g s:=by
 obtain⟨tv,gv,text,gs,H,I,J,M⟩:=h.ex;exact⟨(u.old g (ai H) (by rw[h.lab];exact G)).trans h.lab,tv,gv,text,gs,(u.block g (ai H) (by rw[h.lab];exact G)).trans H,vg u G I,vg u G J,M⟩
end
def fB (w:World) (m:Nat):Below w.heap.size w (w.drewN m):=by
 rw[World.drewN];exact⟨rfl,rfl,rfl,ge _,λ_ _=>rfl⟩
def Lr (j l:Nat):Prop:=l=3+j\/(10<=l/\l % 2=j)
def fl (cs:List (Nat × List Nat)):List Nat:=cs.flatMap (·.2)
def GM (a b:List (Nat × List Nat)):fl (a++b)=fl a++fl b:=US
def ju (x:Nat × List Nat) (b:List (Nat × List Nat)):fl (x :: b)=x.2++fl b:=rfl
structure gh (own:Nat->Nat) (j:Nat) (W:World) (q:Nat) (cs:List (Nat × List Nat)):Prop where
 j2:j<2
 out:∃sv zs front,qu own (3+j) W q 2097152 sv zs front (cs.map λx=>some x.1)
 part:∀x∈cs,(∃sv zs front,mZ own (10+2*x.1+j) W x.1 1024 sv zs front (x.2.map some))/\x.2≠[]
 mid:∀x∈cs.tail.dropLast,x.2.length=1024
 nd:(cs.map (·.1)).Nodup
section
variable {own own':Nat->Nat} {j:Nat} {W W':World} {q:Nat} {cs:List (Nat × List Nat)}
def gh.kept {P:Nat->Prop}(h:gh own j W q cs) (G:cA P own own' W W') (H:∀i,Lr j i->¬P i):gh own' j W' q cs:=by
 obtain⟨sv,u,front,I⟩:=h.out;refine⟨h.j2,⟨sv,u,front,I.keptP G (H _ (.inl rfl))⟩,λx J=>?_,h.mid,h.nd⟩;obtain⟨⟨sv,u,front,h2⟩,h3⟩:=h.part x J;have:=h.j2;exact⟨⟨sv,u,front,h2.keptP G (H _ (.inr ⟨by omega,by omega⟩))⟩,h3⟩
def gh.below (h:gh own j W q cs) (u:Below W.heap.size W W'):gh own j W' q cs:=h.kept (P:=λ_=>False) (cA.of_below u) (λ_ _ h=>h)
def gh.len (h:gh own j W q cs):cs.length<=2097152:=by
 obtain⟨sv,G,front,u⟩:=h.out;have:=u.hold.1;have:=u.len;rw[Td]at *;omega
def gh.plen (h:gh own j W q cs) {x:Nat × List Nat}(G:x∈cs):x.2.length<=1024:=by
 obtain⟨⟨sv,H,front,u⟩,_⟩:=h.part x G;have:=u.hold.1;have:=u.len;rw[Td]at *;omega
def QB (cs:List (Nat × List Nat)) (H:∀x∈cs.tail.dropLast,x.2.length=1024):cs.length*1024<=(fl cs).length+2048:=by
 have G:∀l:List (Nat × List Nat),(∀x∈l,x.2.length=1024)->(fl l).length=l.length*1024:=by
  intro l
  induction l with
  |nil=>intro _;rfl
  |cons x r ih=>
   intro h;rw[ju,IO,ih (λy M=>h y (R1 _ M)),h x RZ,List.length_cons];omega
 cases cs with
 |nil=>simp
 |cons x r=>
  rw[Ui]at H;have I:=G _ H
  by_cases u:r=[]
  ·subst u;simp
  ·have J:r=r.dropLast++[r.getLast u]:=(List.dropLast_concat_getLast u).symm
   have O:(fl r).length=(fl r.dropLast).length+(r.getLast u).2.length:=by
    conv=>lhs;rw[J]
    rw[GM,IO];simp[fl]
   rw[ju,IO,List.length_cons];rw[VC]at I;have:0<r.length:=VO.2 u;omega
def gh.turn {u v:List (Nat × List Nat)}{r:Nat}{c c':List Nat}(h:gh own j W q (u++(r,c) :: v)) (ha:BK own (10+2*r+j) W W' r 1024 (c'.map some)) (hc:c'≠[]) (hm:∀x∈(u++(r,c') :: v).tail.dropLast,x.2.length=1024) :
  ∃own',Nf own' W'/\cA (Lr j) own own' W W'/\gh own' j W' q (u++(r,c') :: v):=by
 obtain⟨own',sv,I,front,Z,Y,h3⟩:=ha;have hj:=h.j2;have Q:cA (λi=>i=10+2*r+j) own own' W W':=Y.toP rfl;refine⟨own',Z,Y.toP (.inr ⟨by omega,by omega⟩),hj,?_,λx H=>?_,hm,?_⟩
 ·obtain⟨sv,I,front,M⟩:=h.out;refine⟨sv,I,front,?_⟩;have:=M.keptP Q (by omega)
  simpa using this
 ·have G:=h.nd;rw[SN,TF]at G
  have O:∀y∈u++v,y.1≠r:=by
   intro y J e;rw[T1]at G
   rcases Ss.1 J with J|J
   ·exact G.2.2 y.1 (List.mem_map_of_mem J) r RZ e
   ·have:=(Um.1 G.2.1).1;exact this (TY.2 ⟨y,J,e⟩)
  rcases Ss.1 H with H|H
  ·obtain⟨⟨sv,I,front,M⟩,S⟩:=h.part x (TV _ H);have:=O x (TV _ H);exact⟨⟨sv,I,front,M.keptP Q (by omega)⟩,S⟩
  ·rcases Sm.1 H with rfl|H
   ·exact⟨⟨sv,I,front,h3⟩,hc⟩
   ·obtain⟨⟨sv,I,front,M⟩,S⟩:=h.part x (To _ (R1 _ H));have:=O x (To _ H);exact⟨⟨sv,I,front,M.keptP Q (by omega)⟩,S⟩
 ·have G:=h.nd
  simpa using G
end
end
section
variable {own:Nat->Nat} {j:Nat} {W:World} {q:Nat} {cs:List (Nat × List Nat)}
def gh.c3 (h:gh own j W q cs):W.cell? (Tw q 3)=some (Tu (cs.length:Nat)):=by
 obtain⟨sv,G,front,u⟩:=h.out;have:=u.c3;rw[Td]at this;exact this
def gh.atq (h:gh own j W q cs) (k:Int) (O:-1<=k):Sa 172 #[.pointer (some (Tw q 0)),Tu k] W λe w'=>(∃y,Uk e (.tuple #[.pointer (pa (if k<0 then none else(cs[k.toNat]?).map (·.1))),Tu y]))/\Se W w':=by
 obtain⟨sv,M,front,H⟩:=h.out;have c3:=h.c3
 by_cases I:k<0\/(cs.length:Int)<=k
 ·refine(LP q cs.length k W c3 I).mono ?_;rintro e w'⟨rfl,rfl⟩;refine⟨⟨1,?_⟩,gt _ _⟩
  by_cases u:k<0
  ·rw[Or u];rfl
  ·rw[Eq u,List.getElem?_eq_none (by omega)];rfl
 ·obtain⟨n,rfl⟩:∃n:Nat,k=n:=⟨k.toNat,by omega⟩;have G:n<cs.length:=by omega
  have J:(cs.map λx=>some x.1)[n]?=some (some cs[n].1):=by
   rw[TE,Pi G];rfl
  refine(LQ own (3+j) q 2097152 front n sv M _ _ W H J).mono ?_;rintro e w'⟨rfl,m,rfl⟩;refine⟨⟨0,?_⟩,fB _ _⟩;rw[Eq (by omega),Tg,Pi G];rfl
end
section
variable {own:Nat->Nat} {j:Nat} {W:World} {g o q:Nat} {cs:List (Nat × List Nat)}
def q8 (h:gh own j W q cs) (H:W.cell? (Tw g o)=some (.pointer (some (Tw q 0)))) :
  Sa 110 #[.pointer (some (Tw g o))] W λe w'=>Uk e (.pointer (pa (cs.head?.map (·.1))))/\Se W w':=by
 have u:Hid (Sa 172 #[.pointer (some (Tw q 0)),Tu 0] W λe w'=>(∃y,Uk e (.tuple #[.pointer (pa (cs.head?.map (·.1))),Tu y]))/\Se W w'):=by
  have:=h.atq 0 (by omega);rw[Eq (by omega)]at this;rw[List.head?_eq_getElem?];exact this
 clear h;generalize pa (cs.head?.map (·.1))=z at *;go_enter func110,ntmps110
 go_wp2_with(go_at_call 172;refine u.out.mono ?_;rintro e I⟨⟨y,rfl⟩,G⟩)
 go_ret;exact⟨rfl,G⟩
def k9 (h:gh own j W q cs) (J:W.cell? (Tw g o)=some (.pointer (some (Tw q 0)))) :
  Sa 106 #[.pointer (some (Tw g o))] W λe w'=>Uk e (.pointer (pa (cs.getLast?.map (·.1))))/\Below W.heap.size W w':=by
 have O:=h.len;have H:=RV _ _ J
 have M:Hid (∀V,Se W V->Sa 172 #[.pointer (some (Tw q 0)),Tu ((cs.length:Nat)-1:Int)] V λe w'=>(∃y,Uk e (.tuple #[.pointer (pa (cs.getLast?.map (·.1))),Tu y]))/\Se V w'):=λV u=>by
  have:=(h.below u).atq ((cs.length:Nat)-1:Int) (by omega)
  have e:(if((cs.length:Nat)-1:Int)<0 then none else(cs[((cs.length:Nat)-1:Int).toNat]?).map (·.1))=cs.getLast?.map (·.1):=by
   rw[List.getLast?_eq_getElem?]
   by_cases S:cs.length=0
   ·rw[Or (by omega),List.getElem?_eq_none (by omega)];rfl
   ·rw[Eq (by omega)];congr 2;omega
  rw[e]at this;exact this
 have HL:=aW λV (u:Se W V)=>QC q cs.length V ((h.below u).c3)
 have I:Hid (∀V,Se W V->V.cell? (Tw g o)=some (.pointer (some (Tw q 0)))/\Se W V):=λV u=>⟨(u.cell (p:=(Tw g o)) H).trans J,u⟩
 clear h;generalize cs.length=n at *;generalize pa (cs.getLast?.map (·.1))=x at *;have Q:IntKind.i64.wrap ((n:Int)-1)=(n:Int)-1:=by rw[Sn];omega
 go_enter func106,ntmps106;(go_wp2_with fail)
 go_region_held3 (λw'=>w'.cell? (Tw g o)=some (.pointer (some (Tw q 0)))/\Below W.heap.size W w') (first|(exact I.out _ (by assumption))|(exact I.out _ (gt _ _).drew)|go_keep) (first|(go_at_call 173;refine(HL.out _ (by first|assumption|exact(gt _ _).drew)).mono ?_;rintro e Y⟨rfl,rfl⟩)|(go_at_call 172;refine(M.out _ (by first|assumption|exact(gt _ _).drew)).mono ?_;rintro e w2⟨⟨y,rfl⟩,hb2⟩;have G:=(by first|exact(gt W.heap.size W).drew.trans (hb2.mono (ge _))|assumption:Below W.heap.size W w2)))
 all_goals(
  (go_wp2_with fail);go_ret;exact⟨rfl,G⟩)
end
section
variable {own:Nat->Nat} {j:Nat} {W:World} {g o q:Nat} {cs:List (Nat × List Nat)}
def lV (h:gh own j W q cs) (Y:W.cell? (Tw g o)=some (.pointer (some (Tw q 0)))) :
  Sa 58 #[.pointer (some (Tw g o))] W λe w'=>Uk e (.tuple #[.pointer (pa (fl cs).head?),.bool (!(fl cs).isEmpty)])/\Se W w':=by
 have M:=aW (q8 h Y)
 have J:Hid (∀V,Se W V->Sa 111 #[.pointer (pa (cs.head?.map (·.1))),Tu 0] V λe w'=>(∃y:Int,Uk e (.tuple #[.pointer (pa (fl cs).head?),Tu y])/\decide (y=0)=!(fl cs).isEmpty)/\Se V w'):=λV S=>by
  cases cs with
  |nil=>
   refine(BB 0 V).mono ?_;rintro e w'⟨rfl,rfl⟩;exact⟨⟨3,rfl,rfl⟩,gt _ _⟩
  |cons x t=>
   obtain⟨⟨sv,zs,front,O⟩,Q⟩:=(h.below S).part x RZ
   obtain⟨b,c,hc⟩:∃b c,x.2=b :: c:=by
    cases H:x.2 with
    |nil=>exact absurd H Q
    |cons b c=>exact⟨b,c,rfl⟩
   have H:(x.2.map some)[0]?=some (some b):=by rw[hc];rfl
   refine(BC own _ x.1 1024 front 0 sv zs _ _ V O H).mono ?_;rintro e w'⟨rfl,m,rfl⟩;refine⟨⟨0,?_,?_⟩,fB _ _⟩
   ·rw[ju,hc];rfl
   ·rw[ju,hc];rfl
 clear h;generalize pa (fl cs).head?=x at *;generalize pa (cs.head?.map (·.1))=z at *;generalize(!(fl cs).isEmpty)=b at *;go_enter func58,ntmps58;(go_wp2_with fail);refine M.out.mono ?_;rintro e w1⟨rfl,u⟩;have G:=aW u;clear u
 go_wp2_with(go_at_call 111;refine(J.out _ G.out).mono ?_;rintro e w2⟨⟨y,rfl,Z⟩,I⟩)
 go_ret2;exact⟨by rw[<-Z];simp[Ub],G.out.trans (I.mono G.out.size)⟩
def AO (cs:List (Nat × List Nat)) (G:∀x∈cs,x.2≠[]):(cs.getLast?=none/\fl cs=[])\/∃u r c b,cs=u++[(r,c++[b])]/\cs.getLast?=some (r,c++[b])/\fl cs=fl u++c++[b]:=by
 rcases UB cs with rfl|⟨u,x,rfl⟩
 ·exact .inl ⟨rfl,rfl⟩
 ·obtain⟨r,l⟩:=x;have hl:=G (r,l) (by simp)
  rcases UB l with rfl|⟨c,b,rfl⟩
  ·exact absurd rfl hl
  ·exact .inr ⟨u,r,c,b,by simp,by simp,by simp[fl]⟩
def Gi (h:gh own j W q cs) (hq:W.cell? (Tw g o)=some (.pointer (some (Tw q 0)))) :
  Sa 63 #[.pointer (some (Tw g o))] W λe w'=>Uk e (.tuple #[.pointer (pa (fl cs).getLast?),.bool (!(fl cs).isEmpty)])/\Se W w':=by
 have HF:=aW (k9 h hq)
 have O:∃n:Nat,n<=1024/\(∀V,Se W V->Sa 120 #[.pointer (pa (cs.getLast?.map (·.1)))] V λe w'=>Uk e (Tu (n:Nat))/\w'=V)/\(∀V,Se W V->Sa 111 #[.pointer (pa (cs.getLast?.map (·.1))),Tu ((n:Int)-1)] V λe w'=>(∃y:Int,Uk e (.tuple #[.pointer (pa (fl cs).getLast?),Tu y])/\decide (y=0)=!(fl cs).isEmpty)/\Se V w'):=by
  rcases AO cs (λx Y=>(h.part x Y).2)with⟨H,Q⟩|⟨u,r,c,b,e0,H,Q⟩
  ·refine⟨0,by omega,λV I=>?_,λV I=>?_⟩
   ·rw[H];exact Gc V
   ·rw[H,Q];refine(BB _ V).mono ?_;rintro e w'⟨rfl,rfl⟩;exact⟨⟨3,rfl,rfl⟩,gt _ _⟩
  ·have G:(r,c++[b])∈cs:=by rw[e0];simp
   refine⟨(c++[b]).length,h.plen G,λV I=>?_,λV I=>?_⟩
   ·obtain⟨⟨sv,zs,front,S⟩,h2⟩:=(h.below I).part _ G;rw[H];have c3:=S.c3;rw[Td]at c3;exact Gd r _ V c3
   ·obtain⟨⟨sv,zs,front,S⟩,h2⟩:=(h.below I).part _ G;rw[H,Q];have Y:((c++[b]).map some)[c.length]?=some (some b):=by simp
    have:=BC own _ r 1024 front c.length sv zs _ _ V S Y;rw[show(((c++[b]).length:Nat):Int)-1=((c.length:Nat):Int)by simp];refine this.mono ?_;rintro e w'⟨rfl,m,rfl⟩;refine⟨⟨0,?_,?_⟩,fB _ _⟩
    ·simp
    ·simp
 obtain⟨n,hn,Z,O⟩:=O;have HL:=gy Z;have HA:=gy O;clear h Z O;generalize pa (fl cs).getLast?=x at *;generalize pa (cs.getLast?.map (·.1))=z at *;generalize(!(fl cs).isEmpty)=b at *;go_enter func63,ntmps63;(go_wp2_with fail);refine HF.out.mono ?_;rintro e w1⟨rfl,J⟩;have M:=aW J;clear J
 go_wp2_with(first|(go_at_call 120;refine(HL.out _ M.out).mono ?_;rintro e w2⟨rfl,rfl⟩)|(go_at_call 111;refine(HA.out _ M.out).mono ?_;rintro e w2⟨⟨y,rfl,hy⟩,hb2⟩))
 go_ret2;exact⟨by rw[<-hy];simp[Ub],M.out.trans (hb2.mono M.out.size)⟩
end
def RA (own:Nat->Nat) (j:Nat) (W w':World) (q:Nat) (l:List Nat):Prop:=∃own' cs,Nf own' w'/\cA (Lr j) own own' W w'/\gh own' j w' q cs/\fl cs=l
def qm {j:Nat}(h:j<2):¬Lr j 2:=by unfold Lr;omega
section
variable {own:Nat->Nat} {j:Nat} {W:World} {g o q:Nat} {cs:List (Nat × List Nat)}
def fo {own':Nat->Nat}{w':World}{P:Nat->Prop}(u:cA P own own' W w') (G:¬P (own g)) {k:Nat}{v:Value}(hc:W.cell? (Tw g k)=some v):w'.cell? (Tw g k)=some v:=
 (RX (a:=(Tw g k)) (u.block g (RV W (Tw g k) hc) G)).trans hc
def fw {own':Nat->Nat}{w':World}{P:Nat->Prop}(G:cA P own own' W w') (H:¬P (own g)) (u:g<W.heap.size) {k:Nat}(hc:W.frozen? (Tw g k)=false):w'.frozen? (Tw g k)=false:=by
 have:=G.block g u H;unfold World.frozen? at hc ⊢;simp only at hc ⊢;rw[this];exact hc
def gh.blk (h:gh own j W q cs) {x:Nat × List Nat}(G:x∈cs):x.1<W.heap.size:=by
 obtain⟨⟨sv,H,front,u⟩,_⟩:=h.part x G;exact ai u.blk
def J9 (h:gh own j W q cs) (I:Nf own W) (Z:own g=2) (fG:Nat) (aa:fG<=1000000000) (hq:W.cell? (Tw g o)=some (.pointer (some (Tw q 0)))) (hc:W.cell? ⟨g,o+1,none⟩=some (Tu (fG:Nat))) (hz:W.frozen? ⟨g,o+1,none⟩=false)
  (b:Nat) {u:List (Nat × List Nat)} {r:Nat} {c:List Nat} (G:cs=u++[(r,c)]) (Y:c.length<1024) :
  Sa 56 #[.pointer (some (Tw g o)),.pointer (some (Tw b 0))] W λe w'=>Uk e (.tuple #[])/\∃W1,w'=W1.setCell ⟨g,o+1,none⟩ (Tu ((fG:Int)+1))/\RA own j W W1 q (fl cs++[b]):=by
 have hj:=h.j2;have J:=RV _ _ hc
 have HF:Hid (Sa 106 #[.pointer (some (Tw g o))] W λe w'=>Uk e (.pointer (some (Tw r 0)))/\Se W w'):=by
  have:=k9 h hq;rw[G]at this;exact gy (by simpa using this)
 have HP:Hid (∀V,Se W V->Sa 107 #[.pointer (some (Tw r 0)),.pointer (some (Tw b 0))] V λe w'=>Uk e (Tu 0)/\Hid (RA own j W w' q (fl cs++[b]))/\w'.cell? ⟨g,o+1,none⟩=some (Tu (fG:Nat))/\w'.frozen? ⟨g,o+1,none⟩=false):=λV O=>by
  have M:=h.below O;rw[G]at M;obtain⟨⟨sv,zs,front,h1⟩,h2⟩:=M.part (r,c) (by simp);refine(qN own _ r 1024 front sv zs _ (some b) V h1 (I.below O.size) (by rw[Td];exact Y)).mono ?_;rintro e w'⟨rfl,ha⟩;have S:BK own (10+2*r+j) V w' r 1024 ((c++[b]).map some):=by rw[SN];exact ha
  obtain⟨own',k1,k2,k3⟩:=M.turn (c':=c++[b]) S (by simp) (by
   have hm:=M.mid;cases u with
   |nil=>intro x hx;simp at hx
   |cons y u=>simp only[R7,Ui,TI]at hm ⊢;exact hm)
  have Q:cA (Lr j) own own' W w':=(cA.of_below O).trans k2;refine⟨rfl,⟨own',_,k1,Q,k3,?_⟩,fo Q (by rw[Z];exact qm hj) hc,fw Q (by rw[Z];exact qm hj) J hz⟩;rw[G];simp[fl]
 clear h G I;generalize fl cs=l at *;go_enter func56,ntmps56;(go_wp2_with fail);refine HF.out.mono ?_;rintro e w1⟨rfl,H⟩;have HB:=aW H;clear H;(go_wp2_with fail);refine(HP.out _ HB.out).mono ?_;rintro e w2⟨rfl,HR,y1,y2⟩;(go_wp2_with fail);go_end0;exact⟨rfl,w2,rfl,HR.out⟩
def vC (h:gh own j W q cs) (ae:Nf own W) (hg:own g=2) (fG:Nat) (ar:fG<=1000000000) (au:(fl cs).length<=1000000000) (hq:W.cell? (Tw g o)=some (.pointer (some (Tw q 0)))) (hc:W.cell? ⟨g,o+1,none⟩=some (Tu (fG:Nat))) (hz:W.frozen? ⟨g,o+1,none⟩=false)
  (b:Nat) (H:cs=[]\/∃u r c,cs=u++[(r,c)]/\c.length=1024) :
  Sa 56 #[.pointer (some (Tw g o)),.pointer (some (Tw b 0))] W λe w'=>Uk e (.tuple #[])/\∃W1,w'=W1.setCell ⟨g,o+1,none⟩ (Tu ((fG:Int)+1))/\RA own j W W1 q (fl cs++[b]):=by
 have hj:=h.j2;have ag:=RV _ _ hc;have an:cs.length<2097152:=by have:=QB cs h.mid;omega
 have J:∀x∈cs.tail,x.2.length=1024:=by
  rcases H with rfl|⟨u,r,c,rfl,S⟩
  ·intro x G;simp at G
  ·have hm:=h.mid;cases u with
   |nil=>intro x G;simp at G
   |cons y u=>
    simp only[R7,Ui,TI]at hm ⊢;intro x G
    rcases Ss.1 G with G|G
    ·exact hm x G
    ·rw[Uc.1 G];exact S
 have HF:=aW (k9 h hq)
 have aj:Hid (∀V,Below W.heap.size W V->Sa 107 #[.pointer (pa (cs.getLast?.map (·.1))),.pointer (some (Tw b 0))] V λe w'=>(∃y:Int,Uk e (Tu y)/\y≠0)/\Below W.heap.size W w'):=λV O=>by
  rcases H with rfl|⟨u,r,c,rfl,S⟩
  ·refine(Cx (some b) V).mono ?_;rintro e w'⟨rfl,rfl⟩;exact⟨⟨3,rfl,by decide⟩,O⟩
  ·obtain⟨⟨sv,I,front,h1⟩,h2⟩:=(h.below O).part (r,c) (by simp);have c3:=h1.c3;rw[Td,S]at c3;have:=yh r 1024 (some b) V h1.c0 c3;rw[show(u++[(r,c)]).getLast?.map (·.1)=some r by simp];refine this.mono ?_;rintro e w'⟨rfl,m,rfl⟩;exact⟨⟨50,rfl,by decide⟩,O.trans ((fB V m).mono O.size)⟩
 have al:Hid (∀V,Below W.heap.size W V->Sa 107 #[.pointer (some ⟨V.heap.size,0,none⟩),.pointer (some (Tw b 0))] (V.alloc (.cells #[Tu 1024,.slice none 0 0,Tu 0,Tu 0] 269)) λe w'=>Uk e (Tu 0)/\Hid (∃own2,Nf own2 w'/\cA (Lr j) own own2 W w'/\gh own2 j w' q cs/\(∃sv I front,mZ own2 (10+2*V.heap.size+j) w' V.heap.size 1024 sv I front ([b].map some))/\(∀x∈cs,x.1≠V.heap.size))/\w'.cell? (Tw g o)=some (.pointer (some (Tw q 0)))):=λV O=>by
  have af:Below V.heap.size V (V.alloc (.cells #[Tu 1024,.slice none 0 0,Tu 0,Tu 0] 269)):=(gt _ _).alloc (ge _) _;have hsz:(V.alloc (.cells #[Tu 1024,.slice none 0 0,Tu 0,Tu 0] 269)).heap.size=V.heap.size+1:=RT _ _;have Q:=h.below O;have am:Fr (10+2*V.heap.size+j) own (λk=>if k=V.heap.size then 10+2*V.heap.size+j else own k) V (V.alloc (.cells #[Tu 1024,.slice none 0 0,Tu 0,Tu 0] 269)):=Fr.label af
  have ah:mZ (λk=>if k=V.heap.size then 10+2*V.heap.size+j else own k) (10+2*V.heap.size+j) (V.alloc (.cells #[Tu 1024,.slice none 0 0,Tu 0,Tu 0] 269)) V.heap.size 1024 (.slice none 0 0) [] 0 []:=
   ⟨ak _ _,Or rfl,by omega,by omega,by simp,.inl ⟨rfl,rfl,rfl⟩,⟨by simp,λi hi=>absurd hi (by simp)⟩⟩
  refine(qN _ _ V.heap.size 1024 0 _ [] [] (some b) _ ah (λk hk=>?_) (by simp)).mono ?_
  ·show(if k=V.heap.size then 10+2*V.heap.size+j else own k)=0;rw[hsz]at hk;have:=O.size;rw[Eq (by omega)];exact ae k (by omega)
  rintro e w'⟨rfl,own2,sv,I,front,k1,k2,k3⟩;have ac:=am.trans k2;have Y:cA (Lr j) own own2 W w':=(cA.of_below O).trans (ac.toP (.inr ⟨by omega,by omega⟩));have ad:∀x∈cs,x.1≠V.heap.size:=λx G e=>by have:=Q.blk G;omega
  have Z:cA (λi=>i=10+2*V.heap.size+j) own own2 V w':=ac.toP rfl;refine⟨rfl,⟨own2,k1,Y,?_,⟨sv,I,front,k3⟩,ad⟩,fo Y (by rw[hg];exact qm hj) hq⟩;obtain⟨sv,I,front,r1⟩:=Q.out;refine⟨hj,⟨sv,I,front,r1.keptP Z (by omega)⟩,λx G=>?_,Q.mid,Q.nd⟩;obtain⟨⟨sv,I,front,r2⟩,r3⟩:=Q.part x G;have:=ad x G;exact⟨⟨sv,I,front,r2.keptP Z (by omega)⟩,r3⟩
 have HQ:Hid (∀n w2,(∃own2,Nf own2 w2/\cA (Lr j) own own2 W w2/\gh own2 j w2 q cs/\(∃sv I front,mZ own2 (10+2*n+j) w2 n 1024 sv I front ([b].map some))/\(∀x∈cs,x.1≠n))->Sa 109 #[.pointer (some (Tw q 0)),.pointer (some (Tw n 0))] w2 λe w'=>Uk e (Tu 0)/\Hid (RA own j W w' q (fl cs++[b]))/\w'.cell? ⟨g,o+1,none⟩=some (Tu (fG:Nat))/\w'.frozen? ⟨g,o+1,none⟩=false):=λn w2 ⟨own2,k1,k2,k3,⟨ap,aq,M,k4⟩,k5⟩=>by
  obtain⟨sv,I,front,r1⟩:=k3.out;refine(Cw own2 (3+j) q 2097152 front sv I _ (some n) w2 r1 k1 (by rw[Td];exact an)).mono ?_;rintro e w'⟨rfl,own3,sv3,zs3,front3,i1,i2,i3⟩;have Y:cA (Lr j) own own3 W w':=k2.trans (i2.toP (.inl rfl));have Z:cA (λi=>i=3+j) own2 own3 w2 w':=i2.toP rfl;refine⟨rfl,⟨own3,cs++[(n,[b])],i1,Y,⟨hj,⟨sv3,zs3,front3,by rw[SN];exact i3⟩,λx G=>?_,?_,?_⟩,by rw[GM];rfl⟩,fo Y (by rw[hg];exact qm hj) hc,fw Y (by rw[hg];exact qm hj) ag hz⟩
  ·rcases Ss.1 G with G|G
   ·obtain⟨⟨sv,I,front,r2⟩,r3⟩:=k3.part x G;exact⟨⟨sv,I,front,r2.keptP Z (by omega)⟩,r3⟩
   ·rw[Uc.1 G];exact⟨⟨ap,aq,M,k4.keptP Z (by omega)⟩,by simp⟩
  ·cases cs with
   |nil=>intro x G;simp at G
   |cons y cs=>simp only[R7,Ui,TI]at J ⊢;exact J
  ·rw[SN,T1];refine⟨k3.nd,by simp,λa ha b Q=>?_⟩;obtain⟨x,G,rfl⟩:=TY.1 ha;simp at Q;rw[Q];exact k5 x G
 clear h H ae J;generalize fl cs=l at *;generalize pa (cs.getLast?.map (·.1))=z at *;go_enter func56,ntmps56;(go_wp2_with fail);refine HF.out.mono ?_;rintro e w1⟨rfl,aa⟩;have HB:=aW aa;clear aa;(go_wp2_with fail);refine(aj.out _ HB.out).mono ?_;rintro e w2⟨⟨y,rfl,hy⟩,ab⟩;have ai:=aW ab;clear ab HB;have av:(y==0)=false:=by simpa using hy
 (go_wp2_with fail);refine(Qz 1024 _ (by omega) (by omega)).mono ?_;rintro e w3⟨rfl,rfl⟩;(go_wp2_with fail);refine(al.out _ ai.out).mono ?_;rintro e w4⟨rfl,HX,y1⟩;(go_wp2_with fail);refine(HQ.out _ _ HX.out).mono ?_;rintro e w5⟨rfl,HR,y2,y3⟩;(go_wp2_with fail);go_end0;exact⟨rfl,w5,rfl,HR.out⟩
def vD (h:gh own j W q cs) (I:Nf own W) (M:own g=2) (fG:Nat) (H:fG<=1000000000) (J:(fl cs).length<=1000000000) (O:W.cell? (Tw g o)=some (.pointer (some (Tw q 0)))) (hc:W.cell? ⟨g,o+1,none⟩=some (Tu (fG:Nat))) (Q:W.frozen? ⟨g,o+1,none⟩=false) (b:Nat) :
  Sa 56 #[.pointer (some (Tw g o)),.pointer (some (Tw b 0))] W λe w'=>Uk e (.tuple #[])/\∃W1,w'=W1.setCell ⟨g,o+1,none⟩ (Tu ((fG:Int)+1))/\RA own j W W1 q (fl cs++[b]):=by
 rcases UB cs with rfl|⟨u,⟨r,c⟩,G⟩
 ·exact vC h I M fG H J O hc Q b (.inl rfl)
 ·rw[Vp]at G;have hl:=h.plen (x:=(r,c)) (by rw[G];simp)
  by_cases S:c.length<1024
  ·exact J9 h I M fG H O hc Q b G S
  ·exact vC h I M fG H J O hc Q b (.inr ⟨u,r,c,G,by simp at hl;omega⟩)
end
section
variable {own:Nat->Nat} {j:Nat} {W:World} {g o q:Nat} {cs:List (Nat × List Nat)}
def gh.gone {M:World}{u v:List (Nat × List Nat)}{r:Nat}{c l':List Nat}(h:gh own j W q (u++(r,c) :: v)) (ha:BK own (10+2*r+j) W M r 1024 (l'.map some)) :
  ∃G,Nf G M/\cA (Lr j) own G W M/\(∃sv I front,qu G (3+j) M q 2097152 sv I front ((u++(r,c) :: v).map λx=>some x.1))/\(∀x∈u++v,(∃sv I front,mZ G (10+2*x.1+j) M x.1 1024 sv I front (x.2.map some))/\x.2≠[]):=by
 obtain⟨own',sv,I,front,Z,Q,h3⟩:=ha;have hj:=h.j2;have S:cA (λi=>i=10+2*r+j) own own' W M:=Q.toP rfl;refine⟨own',Z,Q.toP (.inr ⟨by omega,by omega⟩),?_,λx Y=>?_⟩
 ·obtain⟨sv,I,front,O⟩:=h.out;exact⟨sv,I,front,O.keptP S (by omega)⟩
 ·have H:=h.nd;rw[SN,TF]at H
  have aa:x.1≠r:=by
   intro e;rw[T1]at H
   rcases Ss.1 Y with J|J
   ·exact H.2.2 x.1 (List.mem_map_of_mem J) r RZ e
   ·have:=(Um.1 H.2.1).1;exact this (TY.2 ⟨x,J,e⟩)
  obtain⟨⟨sv,I,front,O⟩,k2⟩:=h.part x (by
   rcases Ss.1 Y with J|J
   ·exact TV _ J
   ·exact To _ (R1 _ J))
  exact⟨⟨sv,I,front,O.keptP S (by omega)⟩,k2⟩
def gh.went {I w2:World}{G:Nat->Nat}{u:List (Nat × List Nat)}(S:j<2) (hp:∀x∈u,(∃sv H front,mZ G (10+2*x.1+j) I x.1 1024 sv H front (x.2.map some))/\x.2≠[]) (Q:IP G (3+j) I w2 q 2097152 (u.map λx=>some x.1)) (Y:∀x∈u.tail.dropLast,x.2.length=1024) (Z:(u.map (·.1)).Nodup) :
  ∃own2,Nf own2 w2/\cA (Lr j) G own2 I w2/\gh own2 j w2 q u:=by
 obtain⟨own',sv,H,front,M,J,O⟩:=Q;refine⟨own',M,J.toP (.inl rfl),S,⟨sv,H,front,O⟩,λx hx=>?_,Y,Z⟩;obtain⟨⟨sv,H,front,k1⟩,k2⟩:=hp x hx;exact⟨⟨sv,H,front,k1.keptP (J.toP (P:=λi=>i=3+j) rfl) (by omega)⟩,k2⟩
def sL (h:gh own j W q cs) (ac:Nf own W) (hg:own g=2) (fG:Nat) (ae:fG<=1000000000) (hq:W.cell? (Tw g o)=some (.pointer (some (Tw q 0)))) (hc:W.cell? ⟨g,o+1,none⟩=some (Tu (fG:Nat))) (hz:W.frozen? ⟨g,o+1,none⟩=false)
  {b:Nat} {l:List Nat} (hl:fl cs=b :: l) :
  Sa 62 #[.pointer (some (Tw g o))] W λe w'=>Uk e (.tuple #[])/\∃W1,w'=W1.setCell ⟨g,o+1,none⟩ (Tu ((fG:Int)-1))/\RA own j W W1 q l:=by
 have hj:=h.j2;have Y:=RV _ _ hc
 obtain⟨r,c,t,ab⟩:∃r c t,cs=(r,b :: c) :: t:=by
  cases cs with
  |nil=>cases hl
  |cons x t=>
   obtain⟨r,k⟩:=x;have:=(h.part (r,k) RZ).2;cases k with
   |nil=>exact absurd rfl this
   |cons y c=>
    rw[ju]at hl;simp at hl;exact⟨r,c,t,by rw[hl.1]⟩
 have Q:l=c++fl t:=by
  rw[ab,ju]at hl
  simpa using hl.symm
 have HF:Hid (Sa 110 #[.pointer (some (Tw g o))] W λe w'=>Uk e (.pointer (some (Tw r 0)))/\Se W w'):=by
  have:=q8 h hq;rw[ab]at this;exact this
 subst ab
 have G:∀V,Se W V->Sa 119 #[.pointer (some (Tw r 0))] V λe w'=>Uk e (.tuple #[.pointer (some (Tw b 0)),Tu 0])/\BK own (10+2*r+j) V w' r 1024 (c.map some)/\gh own j V q ([]++(r,b :: c) :: t):=λV S=>by
  have Z:=h.below S;obtain⟨⟨sv,I,front,h1⟩,h2⟩:=Z.part (r,b :: c) RZ;refine(CF own _ r 1024 front sv I _ (some b) V h1 (ac.below S.size) rfl).mono ?_;rintro e w'⟨rfl,O⟩;exact⟨rfl,O,Z⟩
 by_cases aa:c=[]
 ·subst aa
  have HP:Hid (∀V,Se W V->Sa 119 #[.pointer (some (Tw r 0))] V λe w'=>Uk e (.tuple #[.pointer (some (Tw b 0)),Tu 0])/\Hid (∃u,Nf u w'/\cA (Lr j) own u W w'/\(∃sv I front,qu u (3+j) w' q 2097152 sv I front (((r,[b]) :: t).map λx=>some x.1))/\(∀x∈t,(∃sv I front,mZ u (10+2*x.1+j) w' x.1 1024 sv I front (x.2.map some))/\x.2≠[]))/\w'.cell? (Tw r 3)=some (Tu 0)/\w'.cell? (Tw g o)=some (.pointer (some (Tw q 0)))):=λV S=>by
   refine(G V S).mono ?_;rintro e w'⟨rfl,O,Z⟩
   have c3:w'.cell? (Tw r 3)=some (Tu 0):=by
    obtain⟨_,_,_,_,_,_,i3⟩:=O;exact i3.c3
   obtain⟨u,k1,k2,k3,k4⟩:=Z.gone (l':=[]) O;have M:=(cA.of_below (P:=Lr j) (own:=own) S).trans k2;exact⟨rfl,⟨u,k1,M,k3,k4⟩,c3,fo M (by rw[hg];exact qm hj) hq⟩
  have HL:=aW λw' (hw:w'.cell? (Tw r 3)=some (Tu 0))=>Gd r 0 w' hw
  have HQ:Hid (∀H,(∃u,Nf u H/\cA (Lr j) own u W H/\(∃sv I front,qu u (3+j) H q 2097152 sv I front (((r,[b]) :: t).map λx=>some x.1))/\(∀x∈t,(∃sv I front,mZ u (10+2*x.1+j) H x.1 1024 sv I front (x.2.map some))/\x.2≠[]))->Sa 121 #[.pointer (some (Tw q 0))] H λe w'=>Uk e (.tuple #[.pointer (some (Tw r 0)),Tu 0])/\Hid (RA own j W w' q l)/\w'.cell? ⟨g,o+1,none⟩=some (Tu (fG:Nat))/\w'.frozen? ⟨g,o+1,none⟩=false):=λH ⟨u,k1,k2,⟨sv,I,front,k3⟩,k4⟩=>by
   refine(CE u (3+j) q 2097152 front sv I _ (some r) H k3 k1 rfl).mono ?_;rintro e w'⟨rfl,O⟩
   obtain⟨own2,i1,i2,i3⟩:=gh.went hj k4 O (by
    have hm:=h.mid;rw[Ui]at hm;intro x hx;refine hm x ?_;cases t with
    |nil=>simp at hx
    |cons y t=>
     rw[Ui]at hx;cases t with
     |nil=>simp at hx
     |cons z t=>rw[List.dropLast_cons_of_ne_nil (by simp)];exact R1 _ hx) (by have:=h.nd;rw[TF]at this;exact(Um.1 this).2)
   have M:=k2.trans i2;exact⟨rfl,⟨own2,t,i1,M,i3,by rw[Q];rfl⟩,fo M (by rw[hg];exact qm hj) hc,fw M (by rw[hg];exact qm hj) Y hz⟩
  clear h G hl Q ac;go_enter func62,ntmps62;(go_wp2_with fail);refine HF.out.mono ?_;rintro e H⟨rfl,J⟩;have HB:=aW J;clear J;(go_wp2_with fail);refine(HP.out _ HB.out).mono ?_;rintro e w2⟨rfl,HX,y1,y2⟩;(go_wp2_with fail);refine(HL.out _ y1).mono ?_;rintro e w3⟨rfl,rfl⟩;(go_wp2_with fail);refine(HQ.out _ HX.out).mono ?_;rintro e w5⟨rfl,HR,y3,y4⟩;(go_wp2_with fail);go_end0;exact⟨rfl,w5,rfl,HR.out⟩
 ·have ad:0<c.length:=VO.2 aa;have af:c.length<1024:=by have:=h.plen (x:=(r,b :: c)) RZ;simp at this;omega
  have HP:Hid (∀V,Se W V->Sa 119 #[.pointer (some (Tw r 0))] V λe w'=>Uk e (.tuple #[.pointer (some (Tw b 0)),Tu 0])/\Hid (RA own j W w' q l)/\w'.cell? (Tw r 3)=some (Tu (c.length:Nat))/\w'.cell? ⟨g,o+1,none⟩=some (Tu (fG:Nat))/\w'.frozen? ⟨g,o+1,none⟩=false):=λV S=>by
   refine(G V S).mono ?_;rintro e w'⟨rfl,O,Z⟩
   have c3:w'.cell? (Tw r 3)=some (Tu (c.length:Nat)):=by
    obtain⟨_,_,_,_,_,_,i3⟩:=O;have:=i3.c3;rw[Td]at this;exact this
   obtain⟨u,k1,k2,k3⟩:=Z.turn (c':=c) O aa Z.mid;have M:=(cA.of_below (P:=Lr j) (own:=own) S).trans k2;exact⟨rfl,⟨u,_,k1,M,k3,by rw[Q];rfl⟩,c3,fo M (by rw[hg];exact qm hj) hc,fw M (by rw[hg];exact qm hj) Y hz⟩
  have HL:=aW λw' (hw:w'.cell? (Tw r 3)=some (Tu (c.length:Nat)))=>Gd r c.length w' hw
  clear h G hl Q ac;generalize c.length=n at *;have q1:((n:Int)==0)=false:=by simp;omega
  have q2:¬((n:Int)=0):=by omega
  have q3:¬(n=0):=by omega
  go_enter func62,ntmps62;(go_wp2_with fail)
  refine HF.out.mono ?_;rintro e H⟨rfl,J⟩;have HB:=aW J;clear J;(go_wp2_with fail);refine(HP.out _ HB.out).mono ?_;rintro e w2⟨rfl,HX,y1,y2,y3⟩;(go_wp2_with fail);refine(HL.out _ y1).mono ?_;rintro e w3⟨rfl,rfl⟩;(go_wp2_with fail);go_end0;exact⟨rfl,w3,rfl,HX.out⟩
def vK (h:gh own j W q cs) (ad:Nf own W) (hg:own g=2) (fG:Nat) (ai:fG<=1000000000) (hq:W.cell? (Tw g o)=some (.pointer (some (Tw q 0)))) (hc:W.cell? ⟨g,o+1,none⟩=some (Tu (fG:Nat))) (hz:W.frozen? ⟨g,o+1,none⟩=false)
  {b:Nat} {l:List Nat} (hl:fl cs=l++[b]) :
  Sa 122 #[.pointer (some (Tw g o))] W λe w'=>Uk e (.tuple #[])/\∃W1,w'=W1.setCell ⟨g,o+1,none⟩ (Tu ((fG:Int)-1))/\RA own j W W1 q l:=by
 have hj:=h.j2;have ab:=RV _ _ hc
 obtain⟨t,r,c,ag,Q,aa⟩:∃t r c,cs=t++[(r,c++[b])]/\cs.getLast?=some (r,c++[b])/\l=fl t++c:=by
  rcases AO cs (λx Z=>(h.part x Z).2)with⟨e1,e2⟩|⟨u,r,c,b',e0,e1,e2⟩
  ·rw[e2]at hl;simp at hl
  ·rw[e2]at hl;have:=Vv hl rfl;have Y:b'=b:=by simpa using this.2
   subst Y;exact⟨u,r,c,e0,e1,this.1.symm⟩
 have HF:Hid (Sa 106 #[.pointer (some (Tw g o))] W λe w'=>Uk e (.pointer (some (Tw r 0)))/\Se W w'):=by
  have:=k9 h hq;rw[Q]at this;exact this
 clear Q;subst ag;have ae:((c++[b]).map some)[((c++[b]).map some).length-1]?=some (some b):=by simp
 have H:∀V,Se W V->Sa 183 #[.pointer (some (Tw r 0))] V λe w'=>Uk e (.tuple #[.pointer (some (Tw b 0)),Tu 0])/\BK own (10+2*r+j) V w' r 1024 (c.map some)/\gh own j V q (t++(r,c++[b]) :: []):=λV hV=>by
  have Y:=h.below hV;obtain⟨⟨sv,M,front,h1⟩,h2⟩:=Y.part (r,c++[b]) (by simp);refine(CH own _ r 1024 front sv M _ (some b) V h1 (ad.below hV.size) (by simp) ae).mono ?_;rintro e w'⟨rfl,J⟩;refine⟨rfl,?_,Y⟩;rw[SN,List.map_singleton,TI]at J;exact J
 by_cases ac:c=[]
 ·subst ac
  have HP:Hid (∀V,Se W V->Sa 183 #[.pointer (some (Tw r 0))] V λe w'=>Uk e (.tuple #[.pointer (some (Tw b 0)),Tu 0])/\Hid (∃G,Nf G w'/\cA (Lr j) own G W w'/\(∃sv M front,qu G (3+j) w' q 2097152 sv M front ((t++[(r,[b])]).map λx=>some x.1))/\(∀x∈t,(∃sv M front,mZ G (10+2*x.1+j) w' x.1 1024 sv M front (x.2.map some))/\x.2≠[]))/\w'.cell? (Tw r 3)=some (Tu 0)/\w'.cell? (Tw g o)=some (.pointer (some (Tw q 0)))):=λV hV=>by
   refine(H V hV).mono ?_;rintro e w'⟨rfl,J,Y⟩
   have c3:w'.cell? (Tw r 3)=some (Tu 0):=by
    obtain⟨_,_,_,_,_,_,i3⟩:=J;exact i3.c3
   obtain⟨G,k1,k2,k3,k4⟩:=Y.gone (l':=[]) J;have S:=(cA.of_below (P:=Lr j) (own:=own) hV).trans k2;exact⟨rfl,⟨G,k1,S,k3,λx Z=>k4 x (by simpa using Z)⟩,c3,fo S (by rw[hg];exact qm hj) hq⟩
  have HL:=aW λw' (hw:w'.cell? (Tw r 3)=some (Tu 0))=>Gd r 0 w' hw
  have HQ:Hid (∀I,(∃G,Nf G I/\cA (Lr j) own G W I/\(∃sv M front,qu G (3+j) I q 2097152 sv M front ((t++[(r,[b])]).map λx=>some x.1))/\(∀x∈t,(∃sv M front,mZ G (10+2*x.1+j) I x.1 1024 sv M front (x.2.map some))/\x.2≠[]))->Sa 184 #[.pointer (some (Tw q 0))] I λe w'=>Uk e (.tuple #[.pointer (some (Tw r 0)),Tu 0])/\Hid (RA own j W w' q l)/\w'.cell? ⟨g,o+1,none⟩=some (Tu (fG:Nat))/\w'.frozen? ⟨g,o+1,none⟩=false):=λI ⟨G,k1,k2,⟨sv,M,front,k3⟩,k4⟩=>by
   refine(CG G (3+j) q 2097152 front sv M _ (some r) I k3 k1 (by simp) (by simp)).mono ?_;rintro e w'⟨rfl,J⟩
   have af:IP G (3+j) I w' q 2097152 (t.map λx=>some x.1):=by
    rw[SN,List.map_singleton,TI]at J;exact J
   obtain⟨own2,i1,i2,i3⟩:=gh.went hj k4 af (by
    have hm:=h.mid;cases t with
    |nil=>intro x Z;simp at Z
    |cons y t=>
     simp only[R7,Ui,TI]at hm;intro x Z;exact hm x ((List.dropLast_sublist _).subset Z)) (by have:=h.nd;rw[SN,T1]at this;exact this.1)
   have S:=k2.trans i2;exact⟨rfl,⟨own2,t,i1,S,i3,by rw[aa];simp⟩,fo S (by rw[hg];exact qm hj) hc,fw S (by rw[hg];exact qm hj) ab hz⟩
  clear h H hl aa ad ae;go_enter func122,ntmps122;(go_wp2_with fail);refine HF.out.mono ?_;rintro e I⟨rfl,O⟩;have HB:=aW O;clear O;(go_wp2_with fail);refine(HP.out _ HB.out).mono ?_;rintro e w2⟨rfl,HX,y1,y2⟩;(go_wp2_with fail);refine(HL.out _ y1).mono ?_;rintro e w3⟨rfl,rfl⟩;(go_wp2_with fail);refine(HQ.out _ HX.out).mono ?_;rintro e w5⟨rfl,HR,y3,y4⟩;(go_wp2_with fail);go_end0;exact⟨rfl,w5,rfl,HR.out⟩
 ·have ah:0<c.length:=VO.2 ac;have aj:c.length<1024:=by have:=h.plen (x:=(r,c++[b])) (by simp);simp at this;omega
  have HP:Hid (∀V,Se W V->Sa 183 #[.pointer (some (Tw r 0))] V λe w'=>Uk e (.tuple #[.pointer (some (Tw b 0)),Tu 0])/\Hid (RA own j W w' q l)/\w'.cell? (Tw r 3)=some (Tu (c.length:Nat))/\w'.cell? ⟨g,o+1,none⟩=some (Tu (fG:Nat))/\w'.frozen? ⟨g,o+1,none⟩=false):=λV hV=>by
   refine(H V hV).mono ?_;rintro e w'⟨rfl,J,Y⟩
   have c3:w'.cell? (Tw r 3)=some (Tu (c.length:Nat)):=by
    obtain⟨_,_,_,_,_,_,i3⟩:=J;have:=i3.c3;rw[Td]at this;exact this
   obtain⟨G,k1,k2,k3⟩:=Y.turn (c':=c) J ac (by
    have hm:=Y.mid;cases t with
    |nil=>intro x Z;simp at Z
    |cons y t=>simp only[R7,Ui,TI]at hm ⊢;exact hm)
   have S:=(cA.of_below (P:=Lr j) (own:=own) hV).trans k2;exact⟨rfl,⟨G,_,k1,S,k3,by rw[aa];simp[fl]⟩,c3,fo S (by rw[hg];exact qm hj) hc,fw S (by rw[hg];exact qm hj) ab hz⟩
  have HL:=aW λw' (hw:w'.cell? (Tw r 3)=some (Tu (c.length:Nat)))=>Gd r c.length w' hw
  clear h H hl aa ad ae;generalize c.length=n at *;have q1:((n:Int)==0)=false:=by simp;omega
  have q2:¬((n:Int)=0):=by omega
  have q3:¬(n=0):=by omega
  go_enter func122,ntmps122;(go_wp2_with fail)
  refine HF.out.mono ?_;rintro e I⟨rfl,O⟩;have HB:=aW O;clear O;(go_wp2_with fail);refine(HP.out _ HB.out).mono ?_;rintro e w2⟨rfl,HX,y1,y2,y3⟩;(go_wp2_with fail);refine(HL.out _ y1).mono ?_;rintro e w3⟨rfl,rfl⟩;(go_wp2_with fail);go_end0;exact⟨rfl,w3,rfl,HX.out⟩
end
def Tryz.info64:(Tryz.prog.info? 64).map (λi=>(i.zero,i.size,i.bytes))=some (some (.agg #[Tu 0,.bool false,.bool false]),3,16):=by kernel_rfl
def qr (b:Bk):List Value:=[Tu b.ind,.bool b.ev,.bool b.ft]
def LJ (b:Bk):(qr b).length=3:=rfl
structure rG where
 a0:Value
 a1:Value
 a2:Value
 a3:Value
 a4:Value
 a5:Value
 a6:Value
def FK (hd:rG) (n gs:Nat) (b:Bk) (v:Value) (en:Bool):Array Value:=#[hd.a0,hd.a1,hd.a2,hd.a3,hd.a4,hd.a5,hd.a6,Tu n,.pointer (some ⟨gs,0,none⟩),Tu b.ind,.bool b.ev,.bool b.ft,v,.bool en]
structure dL (hd:rG) (B:Nat) (w0:World) (own:Nat->Nat) (W:World) (g gs n:Nat) (p:Pr):Prop where
 en:En own W
 lo:∀k,k<B->own k=0
 bel:Below B w0 W
 hB:B<=w0.heap.size
 sk:SK own 1 W gs p.sk
 pr:∃v,W.heap[g]?=some (.cells (FK hd n gs p.bl v p.en) 70 (0,0))/\(W.ownsRow 0 64 3 v p.ar.length (ap qr p.ar.reverse)/\∀k,v.ownBlock=some k->own k=2)
 lab:own g=2
section
variable {hd:rG} {B:Nat} {w0:World} {own:Nat->Nat} {W:World} {g gs n:Nat} {p:Pr}
def dL.c0 (h:dL hd B w0 own W g gs n p):W.cell? (Tw g 7)=some (Tu n):=by obtain⟨v,u,_⟩:=h.pr;exact aa u rfl
def dL.c1 (h:dL hd B w0 own W g gs n p):W.cell? (Tw g 8)=some (.pointer (some (Tw gs 0))):=by obtain⟨v,u,_⟩:=h.pr;exact aa u rfl
def dL.c2 (h:dL hd B w0 own W g gs n p):W.cell? (Tw g 9)=some (Tu p.bl.ind):=by obtain⟨v,u,_⟩:=h.pr;exact aa u rfl
def dL.c3 (h:dL hd B w0 own W g gs n p):W.cell? (Tw g 10)=some (.bool p.bl.ev):=by obtain⟨v,u,_⟩:=h.pr;exact aa u rfl
def dL.c4 (h:dL hd B w0 own W g gs n p):W.cell? (Tw g 11)=some (.bool p.bl.ft):=by obtain⟨v,u,_⟩:=h.pr;exact aa u rfl
def dL.c6 (h:dL hd B w0 own W g gs n p):W.cell? (Tw g 13)=some (.bool p.en):=by obtain⟨v,u,_⟩:=h.pr;exact aa u rfl
def dL.fz (h:dL hd B w0 own W g gs n p) (k:Nat):W.frozen? (Tw g k)=false:=by obtain⟨v,u,_⟩:=h.pr;exact aj u
def dL.lt (h:dL hd B w0 own W g gs n p):g<W.heap.size:=by obtain⟨v,u,_⟩:=h.pr;exact ai u
def dL.bl (h:dL hd B w0 own W g gs n p):B<=W.heap.size:=PI h.hB h.bel.size
def dL.gB (h:dL hd B w0 own W g gs n p):B<=g:=by
 refine Nat.le_of_not_lt λu=>?_
 have:=h.lo g u;rw[h.lab]at this;cases this
def dL.below (h:dL hd B w0 own W g gs n p) {W':World}(u:Below W.heap.size W W'):dL hd B w0 own W' g gs n p:=by
 obtain⟨v,G,H,I⟩:=h.pr;exact⟨h.en.below u,h.lo,h.bel.trans (u.mono h.bl),h.hB,h.sk.below u,⟨v,af G u,aU H u,I⟩,h.lab⟩
def dL.sink (h:dL hd B w0 own W g gs n p) {W':World}{s':cX}(Q:Ae own 1 W W' gs s'):∃own',dL hd B w0 own' W' g gs n { p with sk:=s' }/\Sd own own' W W'/\W.heap.size<=W'.heap.size:=by
 obtain⟨own',M,u,O⟩:=Q;obtain⟨v,h1,h2⟩:=h.pr;have G:=ai h1;have I:=h.bl;refine⟨own',⟨M,λk H=>(u.old k (by omega)).trans (h.lo k H),h.bel.trans (u.below I h.lo (by omega)),h.hB,O,⟨v,?_,tm u (by omega) h2⟩,(u.old g G).trans h.lab⟩,λk H J=>⟨u.block k H (by rw[J];omega),(u.old k H).trans J⟩,u.size⟩;exact(u.block g G (by rw[h.lab];omega)).trans h1
def dL.sett (h:dL hd B w0 own W g gs n p) (b:Bool):dL hd B w0 own (W.setCell ⟨g,13,none⟩ (.bool b)) g gs n { p with en:=b }/\Sd own own W (W.setCell ⟨g,13,none⟩ (.bool b)):=by
 obtain⟨v,G,H,O⟩:=h.pr;have I:Fr 2 own own W (W.setCell ⟨g,13,none⟩ (.bool b)):=(Fr.refl 2 own W).set' h.lab 13 _;have S:Nf own (W.setCell ⟨g,13,none⟩ (.bool b)):=h.en.nf.below (Kp.set W g 13 _).size;have Y:=aF H G (by decide)
 exact⟨⟨h.en.fr (by omega) S I,h.lo,h.bel.setCell (p:=(Tw g 13)) h.gB _,h.hB,h.sk.kept I (by omega),⟨v,ag G 13 _,(Kp.set W g 13 _).row H (λk J M=>Y (by rw[J,M])),O⟩,h.lab⟩,
  λk Q u=>⟨(Kp.set W g 13 (.bool b)).block k Q (λe=>by subst e;rw[h.lab]at u;cases u),u⟩⟩
end
def lT {hd:rG}{B:Nat}{w0:World}{own:Nat->Nat}{W:World}{g gs n:Nat}{p:Pr}(h:dL hd B w0 own W g gs n p) {U:Nat}(Q:Bp p U) (hU:U<=2147483647) (need:Nat) (aa:need<=1000000000000000) (hn:n<=4096) :
  Sa 113 #[.pointer (some (Tw g 7)),Tu need] W λe w'=>Uk e (.bool (p.fits n need))/\Below W.heap.size W w':=by
 have H:=Q.col;have HC:=aW λV (u:Se W V)=>rA (h.below u).sk (by omega) (by omega)
 have c0:=h.c0;have c1:=h.c1;have Z:=h.lt;have O:Hid (∀V,Se W V->V.cell? (Tw g 7)=some (Tu n)/\V.cell? (Tw g 8)=some (.pointer (some (Tw gs 0)))/\Se W V):=λV u=>⟨(h.below u).c0,(h.below u).c1,u⟩
 have e:p.fits n need=decide ((need:Int)<=(n:Int)-((p.sk.col:Int)+p.sk.wait)):=by
  unfold Pr.fits Pr.at;rw[SZ];omega
 rw[e];obtain⟨z,S⟩:∃z:Nat,p.sk.col+p.sk.wait=z:=⟨_,rfl⟩;have G:(p.sk.col:Int)+p.sk.wait=(z:Int):=by omega
 rw[G]at HC ⊢;have ab:z<=2147483647:=by omega
 have M:IntKind.i64.wrap ((n:Int)-z)=(n:Int)-z:=by rw[Sn];omega
 clear S G H e h Q;go_enter func113,ntmps113;(go_wp2_with fail)
 go_region_held3 (λw'=>w'.cell? (Tw g 7)=some (Tu n)/\w'.cell? (Tw g 8)=some (.pointer (some (Tw gs 0)))/\Below W.heap.size W w') (first|(exact O.out _ (by assumption))|(exact O.out _ (gt _ _).drew)|go_keep) (first|(go_at_call 97;refine(HC.out _ (by first|assumption|exact(gt _ _).drew)).mono ?_;rintro e Y⟨rfl,I⟩;have J:=(by first|exact(gt W.heap.size W).drew.trans (I.mono (ge _))|assumption:Below W.heap.size W Y)))
 all_goals(
  (go_wp2_with fail);go_ret;exact⟨by rw[<-M];rfl,J⟩)
def jX {hd:rG}{B:Nat}{w0:World}{own:Nat->Nat}{W:World}{g gs n:Nat}{p:Pr}(h:dL hd B w0 own W g gs n p) :
  Sa 114 #[.pointer (some (Tw g 7))] W λe w'=>Uk e (.bool p.sk.fresh)/\w'=W:=by
 have u:=aW (pu h.sk);have c1:=h.c1;clear h;go_enter func114,ntmps114
 go_wp2_with(go_at_call 93;refine u.out.mono ?_;rintro e G⟨rfl,rfl⟩)
 go_ret;exact⟨rfl,rfl⟩
def gY (hd:rG) (B:Nat) (w0:World) (own:Nat->Nat) (W:World) (g gs n:Nat) (p':Pr) (w':World):Prop:=∃own',dL hd B w0 own' w' g gs n p'/\Sd own own' W w'/\W.heap.size<=w'.heap.size
def qX {hd:rG}{B:Nat}{w0:World}{own:Nat->Nat}{W:World}{g gs n:Nat}{p:Pr}(h:dL hd B w0 own W g gs n p) {U:Nat}(H:Bp p U) (S:U<=2147483647) (m:Nat) (Y:m<=1000) :
  Sa 115 #[.pointer (some (Tw g 7)),Tu m] W λe w'=>Uk e (.tuple #[])/\gY hd B w0 own W g gs n (p.hold m) w':=by
 have I:=H.col;have u:=aW (jX h);have c1:=h.c1;unfold Pr.hold;cases G:p.sk.fresh
 ·have J:Hid (Sa 94 #[.pointer (some (Tw gs 0)),Tu m] W λe w'=>Uk e (Tu 0)/\gY hd B w0 own W g gs n { p with sk:=p.sk.blanks m } w'):=by
   refine(rD h.sk h.en (by omega) m (by omega) (by omega)).mono ?_;rintro e w'⟨rfl,O⟩;exact⟨rfl,h.sink O⟩
  rw[G]at u;clear h H G;go_enter func115,ntmps115
  go_wp2_with(first|(go_at_call 114;refine u.out.mono ?_;rintro e Q⟨rfl,rfl⟩)|(go_at_call 94;refine J.out.mono ?_;rintro e w2⟨rfl,h2⟩))
  go_end0;exact⟨rfl,h2⟩
 ·have M:Hid (gY hd B w0 own W g gs n p W):=⟨own,h,Sd.refl _ _,ge _⟩;rw[G]at u;clear h H G;go_enter func115,ntmps115
  go_wp2_with(first|(go_at_call 114;refine u.out.mono ?_;rintro e Q⟨rfl,rfl⟩))
  go_end0;exact⟨rfl,M.out⟩
def qY {hd:rG}{B:Nat}{w0:World}{own:Nat->Nat}{W:World}{g gs n:Nat}{p:Pr}(h:dL hd B w0 own W g gs n p) {U:Nat}(G:Bp p U) (hU:U<=2147483647) :
  Sa 117 #[.pointer (some (Tw g 7))] W λe w'=>Uk e (.tuple #[])/\gY hd B w0 own W g gs n p.endl w':=by
 have S:=G.col;have Z:=G.out;have Y:=G.ind;have H:=aW (jX h);have c1:=h.c1;have c2:=h.c2;have aa:=h.lt;unfold Pr.endl;cases J:p.sk.fresh
 ·have HB:Hid (∀V,V=W.drew->Sa 95 #[.pointer (some (Tw gs 0)),Tu p.bl.ind] V λe w'=>Uk e (Tu 0)/\Hid (gY hd B w0 own W g gs n { p with sk:=p.sk.feed p.bl.ind } w')/\w'.cell? (Tw g 8)=some (.pointer (some (Tw gs 0)))/\w'.cell? (Tw g 9)=some (Tu p.bl.ind)/\w'.cell? (Tw g 13)=some (.bool p.en)/\w'.frozen? (Tw g 13)=false):=by
   intro V hV;subst hV;have hd:=h.below (gt _ W).drew;refine(AX hd.sk hd.en (by omega) p.bl.ind (by omega) (by omega)).mono ?_;rintro e w'⟨rfl,ha⟩;obtain⟨own',u,M,I⟩:=hd.sink ha;exact⟨rfl,⟨own',u,M,I⟩,u.c1,u.c2,u.c6,u.fz 13⟩
  rw[J]at H;clear h G J;go_enter func117,ntmps117
  go_wp2_with(first|(go_at_call 114;refine H.out.mono ?_;rintro e Q⟨rfl,rfl⟩))
  go_region_held3 (λw'=>w'.cell? (Tw g 8)=some (.pointer (some (Tw gs 0)))/\w'.cell? (Tw g 9)=some (Tu p.bl.ind)) (first|(exact⟨by assumption,by assumption⟩)|(exact⟨c1,c2⟩)|go_keep) (first|(go_at_call 95;refine(HB.out _ rfl).mono ?_;rintro e Q⟨rfl,HP,x1,x2,x6,f6⟩))
  all_goals(
   (go_wp2_with fail);go_end0;obtain⟨own',u,M,I⟩:=HP.out;have O:=u.sett true;exact⟨rfl,own',O.1,M.trans I O.2,PI I (Kp.set _ g 13 (.bool true)).size⟩)
 ·have HE:Hid (gY hd B w0 own W g gs n p W):=⟨own,h,Sd.refl _ _,ge _⟩;rw[J]at H;clear h G J;go_enter func117,ntmps117
  go_wp2_with(first|(go_at_call 114;refine H.out.mono ?_;rintro e Q⟨rfl,rfl⟩))
  go_end0;exact⟨rfl,HE.out⟩
def sC {hd:rG}{B:Nat}{w0:World}{own:Nat->Nat}{W:World}{g gs n:Nat}{p:Pr}(h:dL hd B w0 own W g gs n p) {U:Nat}(Q:Bp p U) (Y:U<=2147483647) (need:Nat) (Z:need<=1000000000000000) (hn:n<=4096) (m:Nat) (hm:m<=1000) :
  Sa 116 #[.pointer (some (Tw g 7)),Tu m,Tu need] W λe w'=>Uk e (.tuple #[])/\gY hd B w0 own W g gs n (if p.brk n need then p.endl else p.hold m) w':=by
 have O:=aW (lT h Q Y need Z hn);have M:∀V,Se W V->Sd own own W V:=λV H k hk h0=>⟨H.block k hk,h0⟩
 have HH:Hid (∀V,Se W V->Sa 115 #[.pointer (some (Tw g 7)),Tu m] V λe w'=>Uk e (.tuple #[])/\gY hd B w0 own W g gs n (p.hold m) w'):=λV H=>by
  refine(qX (h.below H) Q Y m hm).mono ?_;rintro e w'⟨rfl,own',d1,d2,S⟩;exact⟨rfl,own',d1,(M V H).trans H.size d2,PI H.size S⟩
 have HE:Hid (∀V,Se W V->Sa 117 #[.pointer (some (Tw g 7))] V λe w'=>Uk e (.tuple #[])/\gY hd B w0 own W g gs n p.endl w'):=λV H=>by
  refine(qY (h.below H) Q Y).mono ?_;rintro e w'⟨rfl,own',d1,d2,S⟩;exact⟨rfl,own',d1,(M V H).trans H.size d2,PI H.size S⟩
 have HC:Hid (∀V,Se W V->V.cell? (Tw g 10)=some (.bool p.bl.ev)/\V.cell? (Tw g 11)=some (.bool p.bl.ft)):=λV H=>⟨(h.below H).c3,(h.below H).c4⟩
 unfold Pr.brk;generalize p.fits n need=f at *;generalize p.bl.ev=ev at *;generalize p.bl.ft=ft at *;clear h Q M;cases ev
 ·cases f
  ·go_enter func116,ntmps116;(go_wp2_with fail)
   refine O.out.mono ?_;rintro e J⟨rfl,u⟩;obtain⟨y1,y2⟩:=HC.out _ u;have G:=aW u;clear u
   go_wp2_with(go_at_call 117;refine(HE.out _ G.out).mono ?_;rintro e w2⟨rfl,I⟩)
   go_end0;exact⟨rfl,I⟩
  ·go_enter func116,ntmps116;(go_wp2_with fail)
   refine O.out.mono ?_;rintro e J⟨rfl,u⟩;obtain⟨y1,y2⟩:=HC.out _ u;have G:=aW u;clear u
   go_wp2_with(go_at_call 115;refine(HH.out _ G.out).mono ?_;rintro e w2⟨rfl,I⟩)
   go_end0;exact⟨rfl,I⟩
 ·cases ft
  ·go_enter func116,ntmps116;(go_wp2_with fail)
   refine O.out.mono ?_;rintro e J⟨rfl,u⟩;obtain⟨y1,y2⟩:=HC.out _ u;have G:=aW u;clear u
   go_wp2_with(go_at_call 117;refine(HE.out _ G.out).mono ?_;rintro e w2⟨rfl,I⟩)
   go_end0;exact⟨rfl,I⟩
  ·go_enter func116,ntmps116;(go_wp2_with fail)
   refine O.out.mono ?_;rintro e J⟨rfl,u⟩;obtain⟨y1,y2⟩:=HC.out _ u;have G:=aW u;clear u
   go_wp2_with(go_at_call 115;refine(HH.out _ G.out).mono ?_;rintro e w2⟨rfl,I⟩)
   go_end0;exact⟨rfl,I⟩
def gR {hd:rG}{B:Nat}{w0:World}{own:Nat->Nat}{W:World}{g gs n:Nat}{p:Pr}(h:dL hd B w0 own W g gs n p) {U:Nat}(M:Bp p U) (hU:U<=2147483647) :
  Sa 118 #[.pointer (some (Tw g 7))] W λe w'=>Uk e (.tuple #[])/\gY hd B w0 own W g gs n (if p.en then { p with sk:=p.sk.empty,en:=false }else p) w':=by
 have aa:=h.lt;have c6:=h.c6;have c1:=h.c1;have O:=M.out
 have Q:Hid (Sa 45 #[.pointer (some (Tw gs 0))] W λe w'=>Uk e (Tu 0)/\Hid (gY hd B w0 own W g gs n { p with sk:=p.sk.empty } w')/\w'.cell? (Tw g 13)=some (.bool p.en)/\w'.frozen? (Tw g 13)=false):=by
  refine(wS h.sk h.en (by omega) (by omega)).mono ?_;rintro e w'⟨rfl,Z⟩;obtain⟨own',u,H,G⟩:=h.sink Z;exact⟨rfl,⟨own',u,H,G⟩,u.c6,u.fz 13⟩
 have S:Hid (gY hd B w0 own W g gs n p W):=⟨own,h,Sd.refl _ _,ge _⟩;clear h M;cases J:p.en
 ·rw[J]at c6;go_enter func118,ntmps118;(go_wp2_with fail);go_end0;exact⟨rfl,S.out⟩
 ·rw[J]at c6;go_enter func118,ntmps118;(go_wp2_with fail);refine Q.out.mono ?_;rintro e w1⟨rfl,Y,y6,f6⟩;(go_wp2_with fail);go_end0;obtain⟨own',u,H,G⟩:=Y.out;have I:=u.sett false;exact⟨rfl,own',I.1,H.trans G I.2,PI G (Kp.set _ g 13 (.bool false)).size⟩
def Ed {hd:rG}{B:Nat}{w0:World}{own:Nat->Nat}{W:World}{g gs n:Nat}{p:Pr}(h:dL hd B w0 own W g gs n p) {U:Nat}(J:Bp p U) (M:U<=2147483647) :
  Sa 26 #[.pointer (some (Tw g 7))] W λe w'=>Uk e (.string ⟨p.sk.out.toArray⟩)/\gY hd B w0 own W g gs n { p with sk:=p.sk.take } w':=by
 have u:=J.out
 have G:Hid (Sa 21 #[.pointer (some (Tw gs 0))] W λe w'=>Uk e (.string ⟨p.sk.out.toArray⟩)/\gY hd B w0 own W g gs n { p with sk:=p.sk.take } w'):=by
  refine(zE h.sk h.en (by omega) (by omega)).mono ?_;rintro e w'⟨rfl,I⟩;exact⟨rfl,h.sink I⟩
 have c1:=h.c1;clear h;go_enter func26,ntmps26
 go_wp2_with(go_at_call 21;refine G.out.mono ?_;rintro e O⟨rfl,H⟩)
 go_ret;exact⟨rfl,H⟩
def dL.box {hd:rG}{B:Nat}{w0:World}{own:Nat->Nat}{W:World}{g gs n:Nat}{p:Pr}(h:dL hd B w0 own W g gs n p) (o:Obj):dL hd B w0 own (W.alloc o) g gs n p/\(W.alloc o).heap[W.heap.size]?=some o/\own W.heap.size=0/\Sd own own W (W.alloc o)/\W.heap.size<=(W.alloc o).heap.size:=
 ⟨h.below ((gt _ _).alloc (ge _) _),ak _ _,h.en.nf _ (ge _),λk G u=>⟨Below.heap_alloc W o k G,u⟩,by rw[RT];omega⟩
def gY.of {hd:rG}{B:Nat}{w0:World}{own:Nat->Nat}{W:World}{g gs n:Nat}{p:Pr}(h:dL hd B w0 own W g gs n p) (o:Obj) {p':Pr}{w':World}(I:gY hd B w0 own (W.alloc o) g gs n p' w'):gY hd B w0 own W g gs n p' w':=by
 obtain⟨own',u,G,H⟩:=I;obtain⟨_,_,_,b1,b2⟩:=h.box o;exact⟨own',u,b1.trans b2 G,PI b2 H⟩
section
variable {hd:rG} {B:Nat} {w0:World} {own:Nat->Nat} {W:World} {g gs n:Nat} {p:Pr}
def C0 (h:dL hd B w0 own W g gs n p) {U:Nat}(J:Bp p U) (hU:U<=2147483647) (need:Nat) (t:ByteArray) (ht:t.size<=65535) :
  Sa 60 #[.pointer (some (Tw g 7)),.agg #[.int .u8 1,.string t,Tu 0,Tu 0,.bool false],Tu need] W λe w'=>Uk e (.tuple #[])/\gY hd B w0 own W g gs n { p with sk:=p.sk.text t,en:=false } w':=by
 have Y:=J.col;have Z:=J.out;have c1:=h.c1;have ab:=h.lt;obtain⟨W1,u⟩:=ea (W.alloc (.cells #[.int .u8 1,.string t,Tu 0,Tu 0,.bool false] 37));obtain⟨b1,b2,b3,b4,b5⟩:=h.box (.cells #[.int .u8 1,.string t,Tu 0,Tu 0,.bool false] 37);rw[u]at b1 b2 b4 b5;have x1:W1.cell? ⟨W.heap.size,1,none⟩=some (.string t):=aa b2 rfl;have O:=b1.c1
 have HB:Hid (∀V,V=W1.drew->Sa 41 #[.pointer (some (Tw gs 0)),.string t] V λe w'=>Uk e (Tu 0)/\Hid (gY hd B w0 own W g gs n { p with sk:=p.sk.text t } w')/\w'.cell? (Tw g 8)=some (.pointer (some (Tw gs 0)))/\w'.cell? ⟨W.heap.size,1,none⟩=some (.string t)/\w'.cell? (Tw g 13)=some (.bool p.en)/\w'.frozen? (Tw g 13)=false):=by
  intro V hV;subst hV;have hd:=b1.below (gt _ W1).drew;refine(zB hd.sk hd.en (by omega) t (by omega)).mono ?_;rintro e w'⟨rfl,ha⟩;obtain⟨own',G,H,I⟩:=hd.sink ha;have Q:=H W.heap.size (ai b2) b3;exact⟨rfl,⟨own',G,b4.trans b5 H,PI b5 I⟩,G.c1,aa (Q.1.trans b2) rfl,G.c6,G.fz 13⟩
 have M:=aW u;clear h J b1 b2 b4 b5 u;go_enter func60,ntmps60;(go_wp2_with fail);rw[M.out]
 go_region_held3 (λw'=>w'.cell? (Tw g 8)=some (.pointer (some (Tw gs 0)))/\w'.cell? ⟨W.heap.size,1,none⟩=some (.string t)) (first|(exact⟨by assumption,by assumption⟩)|(exact⟨O,x1⟩)|go_keep) (first|(go_at_call 41;refine(HB.out _ rfl).mono ?_;rintro e w1⟨rfl,HP,y1,y2,y6,f6⟩))
 all_goals(
  (go_wp2_with fail);go_end0;obtain⟨own',G,H,I⟩:=HP.out;have S:=G.sett false;exact⟨rfl,own',S.1,H.trans I S.2,PI I (Kp.set _ g 13 (.bool false)).size⟩)
def yE (h:dL hd B w0 own W g gs n p) {U:Nat}(G:Bp p U) (J:U<=2147483647) (need:Nat) :
  Sa 60 #[.pointer (some (Tw g 7)),.agg #[.int .u8 2,.string ⟨#[]⟩,Tu 0,Tu 0,.bool false],Tu need] W λe w'=>Uk e (.tuple #[])/\gY hd B w0 own W g gs n (p.hold 1) w':=by
 have H:Hid (∀o,Sa 115 #[.pointer (some (Tw g 7)),Tu 1] (W.alloc o) λe w'=>Uk e (.tuple #[])/\gY hd B w0 own W g gs n (p.hold 1) w'):=λo=>
  (qX (h.box o).1 G J 1 (by omega)).mono λe w' ⟨u,I⟩=>⟨u,gY.of h o I⟩
 clear h G;go_enter func60,ntmps60
 go_wp2_with(go_at_call 115;refine(H.out _).mono ?_;rintro e M⟨rfl,u⟩)
 go_end0;exact⟨rfl,u⟩
def Da (h:dL hd B w0 own W g gs n p) {U:Nat}(G:Bp p U) (J:U<=2147483647) (need:Nat) :
  Sa 60 #[.pointer (some (Tw g 7)),.agg #[.int .u8 4,.string ⟨#[]⟩,Tu 0,Tu 0,.bool false],Tu need] W λe w'=>Uk e (.tuple #[])/\gY hd B w0 own W g gs n p.endl w':=by
 have H:Hid (∀o,Sa 117 #[.pointer (some (Tw g 7))] (W.alloc o) λe w'=>Uk e (.tuple #[])/\gY hd B w0 own W g gs n p.endl w'):=λo=>
  (qY (h.box o).1 G J).mono λe w' ⟨u,I⟩=>⟨u,gY.of h o I⟩
 clear h G;go_enter func60,ntmps60
 go_wp2_with(go_at_call 117;refine(H.out _).mono ?_;rintro e M⟨rfl,u⟩)
 go_end0;exact⟨rfl,u⟩
def GB (h:dL hd B w0 own W g gs n p) {U:Nat}(S:Bp p U) (hU:U<=2147483647) (need:Nat) (O:need<=1000000000000000) (hn:n<=4096) (m:Nat) (hm:m<=1000) :
  Sa 60 #[.pointer (some (Tw g 7)),.agg #[.int .u8 3,.string ⟨#[]⟩,Tu m,Tu 0,.bool false],Tu need] W λe w'=>Uk e (.tuple #[])/\gY hd B w0 own W g gs n (if p.brk n need then p.endl else p.hold m) w':=by
 obtain⟨W1,G⟩:=ea (W.alloc (.cells #[.int .u8 3,.string ⟨#[]⟩,Tu m,Tu 0,.bool false] 37));have u:=h.box (.cells #[.int .u8 3,.string ⟨#[]⟩,Tu m,Tu 0,.bool false] 37);rw[G]at u;have x2:W1.cell? ⟨W.heap.size,2,none⟩=some (Tu m):=aa u.2.1 rfl
 have Q:Hid (∀V,Se W1 V->Sa 116 #[.pointer (some (Tw g 7)),Tu m,Tu need] V λe w'=>Uk e (.tuple #[])/\gY hd B w0 own W g gs n (if p.brk n need then p.endl else p.hold m) w'):=λV H=>by
  obtain⟨Y,b2,b3,Z,I⟩:=u;refine(sC (Y.below H) S hU need O hn m hm).mono ?_;rintro e w'⟨rfl,own',d1,d2,d3⟩;exact⟨rfl,own',d1,(Z.trans I (λk hk h0=>⟨H.block k hk,h0⟩)).trans (PI I H.size) d2,PI (PI I H.size) d3⟩
 have M:=aW G;clear u h S G;generalize(if p.brk n need then p.endl else p.hold m)=P1 at *;go_enter func60,ntmps60;(go_wp2_with fail);rw[M.out]
 first
 | (refine(Q.out _ (gt _ _)).mono ?_;rintro e w2⟨rfl,J⟩;go_wp2_with fail;go_end0;exact⟨rfl,J⟩)
 | (go_region_with (go_at_call 116;refine(Q.out _ (by first|exact(gt _ _).drew|exact gt _ _)).mono ?_;rintro e w2⟨rfl,J⟩);all_goals(go_wp2_with fail);all_goals go_end0;all_goals exact⟨rfl,J⟩)
def yD (h:dL hd B w0 own W g gs n p) {U:Nat}(G:Bp p U) (J:U<=2147483647) (need:Nat) :
  Sa 60 #[.pointer (some (Tw g 7)),.agg #[.int .u8 5,.string ⟨#[]⟩,Tu 0,Tu 0,.bool false],Tu need] W λe w'=>Uk e (.tuple #[])/\gY hd B w0 own W g gs n (if p.en then { p with sk:=p.sk.empty,en:=false }else p) w':=by
 have H:Hid (∀o,Sa 118 #[.pointer (some (Tw g 7))] (W.alloc o) λe w'=>Uk e (.tuple #[])/\gY hd B w0 own W g gs n (if p.en then { p with sk:=p.sk.empty,en:=false }else p) w'):=λo=>
  (gR (h.box o).1 G J).mono λe w' ⟨u,I⟩=>⟨u,gY.of h o I⟩
 clear h G;generalize(if p.en then { p with sk:=p.sk.empty,en:=false }else p)=P1 at *;go_enter func60,ntmps60
 go_wp2_with(go_at_call 118;refine(H.out _).mono ?_;rintro e M⟨rfl,u⟩)
 go_end0;exact⟨rfl,u⟩
end
