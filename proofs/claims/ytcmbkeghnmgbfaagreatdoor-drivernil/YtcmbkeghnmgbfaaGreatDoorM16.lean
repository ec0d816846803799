import Derived.Test.YtcmbkeghnmgbfaaGreatDoorM15
set_option linter.all false
set_option maxHeartbeats 1000000
namespace Go.Proofs.YtcmbkeghnmgbfaaGreatDoor.Lw
open Go.Proofs.Tryz
open Lx
open Go.RowKit
theorem Tryz.info113:(Tryz.prog.info? 113).map (fun i=>(i.zero,i.size,i.bytes))=some (some (.pointer none),1,8):=by kernel_rfl
theorem Tryz.size113:(Tryz.prog.info? 113).map (·.size)=some 1:=by kernel_rfl
theorem FT (N:Nat) (J:N<=2097152) (w:World):(Instr.makeSlice 311 (.int .i64 (N:Int)) (.int .i64 (N:Int))).run Tryz.prog w=.ok (.slice (some ⟨w.heap.size,0,none⟩) N N) (w.alloc (.cells (au aY (List.replicate N none)).toArray 113)):=by
 obtain⟨I,H,u,F,G⟩:=LJ Tryz.info113;have h:=run_make (P:=Tryz.prog) w 311 113 I (.pointer none) underlying311 H u .i64 .i64 (N:Int) (N:Int) (by omega) (by omega) (by rw[G];omega) (by omega)
 have hc:madeCells (Value.pointer none).cells ((N:Int).toNat*1)=(au aY (List.replicate N none)).toArray:=by
  rw[lI]
  apply L4.1
  show(madeCells #[.pointer none] _).toList=_
  rw[toList_madeCells_one];simp
 rw[h,F,hc,Lp]
end Go.Proofs.YtcmbkeghnmgbfaaGreatDoor.Lw
namespace Go.Proofs.YtcmbkeghnmgbfaaGreatDoor
open Go.Proofs.Tryz
open Lw
open Lx
open Go.RowKit
theorem Fr.label {i:Nat}{own:Nat->Nat}{w W:World}(h:Below w.heap.size w W):Fr i own (fun k=>if k=w.heap.size then i else own k) w W:=
 ⟨h.os,h.tape,h.output,h.size,fun k u _=>h.block k u,fun k u=>IO (by omega)⟩
end Go.Proofs.YtcmbkeghnmgbfaaGreatDoor
namespace Go.Proofs.YtcmbkeghnmgbfaaGreatDoor.Lw
open Go.Proofs.Tryz
open Lx
open Go.RowKit
theorem gG {u:List (Option Nat)}{v:Value}(h:v∈au aY u):v.oneCell'=true:=by
 rw[lI]at h;obtain⟨x,_,rfl⟩:=Mi.1 h;rfl
theorem pR (g room n front N b:Nat) (x:Option Nat) (F:List (Option Nat)) (w:World) (av:F.length=n) (G:g<w.heap.size) (h0:w.cell? ⟨g,0,none⟩=some (.int .i64 room)) (h1:w.cell? ⟨g,1,none⟩=some (.slice (some ⟨b,0,none⟩) n n)) (h2:w.cell? ⟨g,2,none⟩=some (.int .i64 front))
  (fz:∀k,w.frozen? ⟨g,k,none⟩=false)
  (aw:w.heap[b]?=some (.cells (au aY F).toArray 113 (0,0))) (az:front<n)
  (hr:room<=2097152) (hn:n<N) (hN:N<=room) (c:(2*n<room/\N=2*n)\/(room<=2*n/\N=room)) :
  Kb 251 #[.pointer (some ⟨g,0,none⟩)] w fun e w'=>e=.returned (.tuple #[])/\∃W,Kc w W/\W.heap[w.heap.size]?=some (.cells (au aY (F.drop front++F.take front++List.replicate (N-n) none)).toArray 113 (0,0)) /\
   w'=(W.setCell ⟨g,1,none⟩ (.slice (some ⟨w.heap.size,0,none⟩) N N)).setCell ⟨g,2,none⟩ (.int .i64 0):=by
 have HM:=FT N (by omega);have I:=ku aw;have ah:=ku av;have FZ:=ku fz;have q1:(1:Int)<2*(n:Int):=by omega
 have q3:max (1:Int) (2*(n:Int))=2*(n:Int):=by omega
 clear aw av fz
 rcases c with⟨c1,c2⟩|⟨c1,c2⟩
 ·have q2:2*(n:Int)<(room:Int):=by omega
  have q4:min (room:Int) (2*(n:Int))=2*(n:Int):=by omega
  rw[show((N:Nat):Int)=2*(n:Int)by omega]at HM;clear c1 c2
  go_enter func251,ntmps251
  go_wp2_with fail
  go_region
  clear HM;obtain⟨W1,ad⟩:∃W1,(w.alloc (.cells (au aY (List.replicate N none)).toArray 113)).drew=W1:=⟨_,rfl⟩;have aj:Hid (W1.heap[w.heap.size]?=some (.cells (au aY (List.replicate N none)).toArray 113 (0,0))):=by show _=_;rw[<-ad];exact Mo w _
  have ab:Kc w W1:=by rw[<-ad];exact((gt _ w).alloc (ge _) _).drew
  rw[ad];clear ad;have d1:=(ab.cell (p:=⟨g,1,none⟩) G).trans h1;have d2:=(ab.cell (p:=⟨g,2,none⟩) G).trans h2;have e1:(front:Int)<=(n:Int):=by omega
  have e2:¬(n=front):=by omega
  have af:Hid (∀W,Kc w W->∀j v,(au aY (F.drop front))[j]?=some v->W.cell? ((⟨b,front,none⟩:Addr).add j)=some v):=fun W hW j v J=>by
   have ag:(au aY F)[front+j]?=some v:=by
    rw[<-KD,show front=front*1 by omega,bR aY 1 (fun _=>rfl)];exact J
   rw[KV];exact aa ((hW.block b (ai I.out)).trans I.out) (by rw[LD];exact ag)
  have al:Hid (∀W,Kc w W->∀j v,(au aY (F.take front))[j]?=some v->W.cell? ((⟨b,0,none⟩:Addr).add j)=some v):=fun W hW j v J=>by
   have ag:(au aY F)[j]?=some v:=by
    have h:(au aY (F.take front))=(au aY F).take front:=by rw[<-ez aY 1 (fun _=>rfl),MA]
    rw[h,KI]at J
    split at J
    ·exact J
    ·cases J
   rw[KV,Km];exact aa ((hW.block b (ai I.out)).trans I.out) (by rw[LD];exact ag)
  have H:Hid ((au aY (F.drop front)).length=(n-front)*1):=by show _=_;rw[bo aY 1 (fun _=>rfl),KB,ah.out]
  have O:Hid ((au aY (F.take front)).length=front*1):=by show _=_;rw[bo aY 1 (fun _=>rfl),Kz,ah.out];congr 1;omega
  have M:Hid ((au aY (List.replicate N none)).length=N):=by show _=_;rw[bo aY 1 (fun _=>rfl),Le,MA]
  have u:Hid (splice (splice (au aY (List.replicate N none)) 0 (au aY (F.drop front))) (n-front) (au aY (F.take front))=au aY (F.drop front++F.take front++List.replicate (N-n) none)):=by
   show _=_
   have:=M.out;have:=H.out;have:=O.out;rw[fM _ _ _ _ (by omega) (by omega),aW,aW,Ks]
   congr 2
   rw[O.out,show n-front+front*1=n*1 by omega,bR aY 1 (fun _=>rfl),Ni]
  obtain⟨Z0,an⟩:∃Z0,au aY (List.replicate N none)=Z0:=⟨_,rfl⟩;obtain⟨A1,hA1⟩:∃A1,au aY (F.drop front)=A1:=⟨_,rfl⟩;obtain⟨A2,hA2⟩:∃A2,au aY (F.take front)=A2:=⟨_,rfl⟩;have M1:Hid (∀v∈A1,v.oneCell'=true):=by show ∀v∈A1,_;rw[<-hA1];exact fun v=>gG
  have M2:Hid (∀v∈A2,v.oneCell'=true):=by show ∀v∈A2,_;rw[<-hA2];exact fun v=>gG
  rw[an]at aj M u;rw[hA1]at af H u;rw[hA2]at al O u;clear an hA1 hA2
  go_wp2_with fail
  go_region_law (refine aD rfl (.tmp 17) (.tmp 26) 311 311 rfl 113 1 underlying311 Tryz.size113 _ _ _ _ _ _ rfl rfl w.heap.size 0 Z0 113 aj.out A1 (n-front) (LE (by omega)).symm H.out (fun _=>⟨rfl,_,rfl,fun j v J=>by first|exact af.out _ ab.drew j v J|simpa using af.out _ ab.drew j v J⟩) (by rw[H.out,M.out];omega) M1.out w.heap.size w ab.drew (ge _) ?_;intro w4 aq ae)
  all_goals(
   have f1:=(ae.cell (p:=⟨g,1,none⟩) G).trans h1;have f2:=(ae.cell (p:=⟨g,2,none⟩) G).trans h2;have e3:((n-front:Nat):Int)<=(N:Int):=by omega
   have e4:¬(N=n-front):=by omega
   have am:Hid ((splice Z0 0 A1).length=N):=by show _=_;rw[ON _ _ _ (by rw[H.out,M.out];omega),M.out]
   have ak:=ku aq.out;obtain⟨Z1,ap⟩:∃Z1,splice Z0 0 A1=Z1:=⟨_,rfl⟩;rw[ap]at ak u am;clear aq ap;obtain⟨k,hk⟩:∃k,n-front=k:=⟨_,rfl⟩;rw[hk]at u H e3 e4;have ay:k+front=n:=by omega
   rw[hk];clear hk
   go_wp2_with fail
   go_region_law (refine aD rfl (.tmp 30) (.tmp 39) 311 311 rfl 113 1 underlying311 Tryz.size113 _ _ _ _ _ _ rfl rfl w.heap.size k Z1 113 ak.out A2 front (LE (by omega)).symm O.out (fun _=>⟨by first|rfl|simp,_,rfl,fun j v J=>al.out _ ae.drew j v J⟩) (by rw[O.out,am.out];omega) M2.out w.heap.size w ae.drew (ge _) ?_;intro w5 ar ac))
  all_goals(
   clear f1 f2;have f1:=(ac.cell (p:=⟨g,1,none⟩) G).trans h1;have f2:=(ac.cell (p:=⟨g,2,none⟩) G).trans h2;have f3:=(ac.frozen (p:=⟨g,1,none⟩) G).trans (FZ.out 1);have f4:=(ac.frozen (p:=⟨g,2,none⟩) G).trans (FZ.out 2);have ax:Hid (w5.heap[w.heap.size]?=some (.cells (au aY (F.drop front++F.take front++List.replicate (N-n) none)).toArray 113 (0,0))):=by show _=_;rw[<-u.out];exact ar.out
   clear ar
   go_wp2_with fail
   go_end0
   exact⟨rfl,w5,ac,ax.out,rfl⟩)
 ·have q2:¬(2*(n:Int)<(room:Int)):=by omega
  have q4:min (room:Int) (2*(n:Int))=(room:Int):=by omega
  rw[show((N:Nat):Int)=(room:Int)by omega]at HM;clear c1 c2
  go_enter func251,ntmps251
  go_wp2_with fail
  go_region
  clear HM;obtain⟨W1,ad⟩:∃W1,(w.alloc (.cells (au aY (List.replicate N none)).toArray 113)).drew=W1:=⟨_,rfl⟩;have aj:Hid (W1.heap[w.heap.size]?=some (.cells (au aY (List.replicate N none)).toArray 113 (0,0))):=by show _=_;rw[<-ad];exact Mo w _
  have ab:Kc w W1:=by rw[<-ad];exact((gt _ w).alloc (ge _) _).drew
  rw[ad];clear ad;have d1:=(ab.cell (p:=⟨g,1,none⟩) G).trans h1;have d2:=(ab.cell (p:=⟨g,2,none⟩) G).trans h2;have e1:(front:Int)<=(n:Int):=by omega
  have e2:¬(n=front):=by omega
  have af:Hid (∀W,Kc w W->∀j v,(au aY (F.drop front))[j]?=some v->W.cell? ((⟨b,front,none⟩:Addr).add j)=some v):=fun W hW j v J=>by
   have ag:(au aY F)[front+j]?=some v:=by
    rw[<-KD,show front=front*1 by omega,bR aY 1 (fun _=>rfl)];exact J
   rw[KV];exact aa ((hW.block b (ai I.out)).trans I.out) (by rw[LD];exact ag)
  have al:Hid (∀W,Kc w W->∀j v,(au aY (F.take front))[j]?=some v->W.cell? ((⟨b,0,none⟩:Addr).add j)=some v):=fun W hW j v J=>by
   have ag:(au aY F)[j]?=some v:=by
    have h:(au aY (F.take front))=(au aY F).take front:=by rw[<-ez aY 1 (fun _=>rfl),MA]
    rw[h,KI]at J
    split at J
    ·exact J
    ·cases J
   rw[KV,Km];exact aa ((hW.block b (ai I.out)).trans I.out) (by rw[LD];exact ag)
  have H:Hid ((au aY (F.drop front)).length=(n-front)*1):=by show _=_;rw[bo aY 1 (fun _=>rfl),KB,ah.out]
  have O:Hid ((au aY (F.take front)).length=front*1):=by show _=_;rw[bo aY 1 (fun _=>rfl),Kz,ah.out];congr 1;omega
  have M:Hid ((au aY (List.replicate N none)).length=N):=by show _=_;rw[bo aY 1 (fun _=>rfl),Le,MA]
  have u:Hid (splice (splice (au aY (List.replicate N none)) 0 (au aY (F.drop front))) (n-front) (au aY (F.take front))=au aY (F.drop front++F.take front++List.replicate (N-n) none)):=by
   show _=_
   have:=M.out;have:=H.out;have:=O.out;rw[fM _ _ _ _ (by omega) (by omega),aW,aW,Ks]
   congr 2
   rw[O.out,show n-front+front*1=n*1 by omega,bR aY 1 (fun _=>rfl),Ni]
  obtain⟨Z0,an⟩:∃Z0,au aY (List.replicate N none)=Z0:=⟨_,rfl⟩;obtain⟨A1,hA1⟩:∃A1,au aY (F.drop front)=A1:=⟨_,rfl⟩;obtain⟨A2,hA2⟩:∃A2,au aY (F.take front)=A2:=⟨_,rfl⟩;have M1:Hid (∀v∈A1,v.oneCell'=true):=by show ∀v∈A1,_;rw[<-hA1];exact fun v=>gG
  have M2:Hid (∀v∈A2,v.oneCell'=true):=by show ∀v∈A2,_;rw[<-hA2];exact fun v=>gG
  rw[an]at aj M u;rw[hA1]at af H u;rw[hA2]at al O u;clear an hA1 hA2
  go_wp2_with fail
  go_region_law (refine aD rfl (.tmp 17) (.tmp 26) 311 311 rfl 113 1 underlying311 Tryz.size113 _ _ _ _ _ _ rfl rfl w.heap.size 0 Z0 113 aj.out A1 (n-front) (LE (by omega)).symm H.out (fun _=>⟨rfl,_,rfl,fun j v J=>by first|exact af.out _ ab.drew j v J|simpa using af.out _ ab.drew j v J⟩) (by rw[H.out,M.out];omega) M1.out w.heap.size w ab.drew (ge _) ?_;intro w4 aq ae)
  all_goals(
   have f1:=(ae.cell (p:=⟨g,1,none⟩) G).trans h1;have f2:=(ae.cell (p:=⟨g,2,none⟩) G).trans h2;have e3:((n-front:Nat):Int)<=(N:Int):=by omega
   have e4:¬(N=n-front):=by omega
   have am:Hid ((splice Z0 0 A1).length=N):=by show _=_;rw[ON _ _ _ (by rw[H.out,M.out];omega),M.out]
   have ak:=ku aq.out;obtain⟨Z1,ap⟩:∃Z1,splice Z0 0 A1=Z1:=⟨_,rfl⟩;rw[ap]at ak u am;clear aq ap;obtain⟨k,hk⟩:∃k,n-front=k:=⟨_,rfl⟩;rw[hk]at u H e3 e4;have ay:k+front=n:=by omega
   rw[hk];clear hk
   go_wp2_with fail
   go_region_law (refine aD rfl (.tmp 30) (.tmp 39) 311 311 rfl 113 1 underlying311 Tryz.size113 _ _ _ _ _ _ rfl rfl w.heap.size k Z1 113 ak.out A2 front (LE (by omega)).symm O.out (fun _=>⟨by first|rfl|simp,_,rfl,fun j v J=>al.out _ ae.drew j v J⟩) (by rw[O.out,am.out];omega) M2.out w.heap.size w ae.drew (ge _) ?_;intro w5 ar ac))
  all_goals(
   clear f1 f2;have f1:=(ac.cell (p:=⟨g,1,none⟩) G).trans h1;have f2:=(ac.cell (p:=⟨g,2,none⟩) G).trans h2;have f3:=(ac.frozen (p:=⟨g,1,none⟩) G).trans (FZ.out 1);have f4:=(ac.frozen (p:=⟨g,2,none⟩) G).trans (FZ.out 2);have ax:Hid (w5.heap[w.heap.size]?=some (.cells (au aY (F.drop front++F.take front++List.replicate (N-n) none)).toArray 113 (0,0))):=by show _=_;rw[<-u.out];exact ar.out
   clear ar
   go_wp2_with fail
   go_end0
   exact⟨rfl,w5,ac,ax.out,rfl⟩)
theorem RG.same {β:Type}{T e:TypeId}{enc:β->List Value}{own:Nat->Nat}{i:Nat}{w w':World}{g room:Nat}{sv:Value}{F:List β}{front:Nat}{l:List β}(h:RG T e enc own i w g room sv F front l) (u:w'.heap=w.heap):RG T e enc own i w' g room sv F front l:=
 ⟨by rw[u];exact h.blk,h.lab,h.r1,h.r2,h.len,by rw[u];exact h.row,h.hold⟩
end Go.Proofs.YtcmbkeghnmgbfaaGreatDoor.Lw
namespace Go.Proofs.YtcmbkeghnmgbfaaGreatDoor
open Go.Proofs.Tryz
open Lw
open Lx
open Go.RowKit
theorem Fr.same {i:Nat}{own own':Nat->Nat}{w W W':World}(h:Fr i own own' w W) (u:W'.heap=W.heap) (F:W'.os=W.os) (G:W'.tape=W.tape) (H:W'.output=W.output):Fr i own own' w W':=
 ⟨F.trans h.os,G.trans h.tape,H.trans h.output,by rw[u];exact h.size,by rw[u];exact h.block,h.old⟩
end Go.Proofs.YtcmbkeghnmgbfaaGreatDoor
namespace Go.Proofs.YtcmbkeghnmgbfaaGreatDoor.Lw
open Go.Proofs.Tryz
open Lx
open Go.RowKit
variable {i g room front b:Nat}{w W:World}{β:Type}{T e:TypeId}{sv:Value}
def dq {β:Type}(T e:TypeId) (enc:β->List Value) (own:Nat->Nat) (i:Nat) (w w':World) (g room:Nat) (l:List β):Prop:=
 ∃own' sv zs front,Nf own' w'/\Fr i own own' w w'/\RG T e enc own' i w' g room sv zs front l
abbrev wu:=dq (β:=Option Nat) 313 113 aY
theorem dq.same {β:Type}{T e:TypeId}{enc:β->List Value}{own:Nat->Nat}{i:Nat}{w W W':World}{g room:Nat}{l:List β}(h:dq T e enc own i w W g room l) (u:W'.heap=W.heap) (F:W'.os=W.os) (G:W'.tape=W.tape) (H:W'.output=W.output):dq T e enc own i w W' g room l:=by
 obtain⟨own',sv,J,front,a,b,c⟩:=h;exact⟨own',sv,J,front,fun k I=>a k (by rw[<-u];exact I),b.same u F G H,c.same u⟩
theorem dq.trans {enc:β->List Value}{own u:Nat->Nat}{W':World}{l:List β}(f:Fr i own u w W) (h:dq T e enc u i W W' g room l):dq T e enc own i w W' g room l:=by
 obtain⟨own',sv,F,front,a,b,c⟩:=h;exact⟨own',sv,F,front,a,f.trans b,c⟩
theorem bF (w:World) (a:Addr) (v:Value):(w.setCell a v).heap.size=w.heap.size:=by show(w.heap.modify _ _).size=_;rw[LK]
theorem RG.widened {enc:β->List Value}{own:Nat->Nat}{N:Nat}{zs u:List β}{l:List β}(h:RG T e enc own i w g room sv zs front l) (I:Nf own w)
  (J:Below w.heap.size w W) (F:W.heap[w.heap.size]?=some (.cells (au enc u).toArray e (0,0))) (hl:u.length=N) (O:N<=room) (M:0<N) (hh:df u 0 l) :
  ∃own',Nf own' ((W.setCell ⟨g,1,none⟩ (.slice (some ⟨w.heap.size,0,none⟩) N N)).setCell ⟨g,2,none⟩ (.int .i64 0)) /\
   Fr i own own' w ((W.setCell ⟨g,1,none⟩ (.slice (some ⟨w.heap.size,0,none⟩) N N)).setCell ⟨g,2,none⟩ (.int .i64 0)) /\
   RG T e enc own' i ((W.setCell ⟨g,1,none⟩ (.slice (some ⟨w.heap.size,0,none⟩) N N)).setCell ⟨g,2,none⟩ (.int .i64 0)) g room (.slice (some ⟨w.heap.size,0,none⟩) N N) u 0 l:=by
 have hg:=ai h.blk;have H:=(J.block g hg).trans h.blk;have aa:=ai F;have G:∀j,j<w.heap.size->own j≠i->j≠g:=fun j _ hj e=>hj (by rw[e];exact h.lab)
 subst hl;refine⟨fun k=>if k=w.heap.size then i else own k,?_,(((Fr.label J).set (g:=g) ((IO (by omega)).trans h.lab) _ _ G).set (g:=g) ((IO (by omega)).trans h.lab) _ _ G),?_⟩
 ·intro k hk;rw[bF,bF]at hk;exact(IO (by omega)).trans (I k (by omega))
 ·refine⟨?_,(IO (by omega)).trans h.lab,h.r1,h.r2,O,.inr ⟨w.heap.size,rfl,?_,Kd rfl,by omega,M⟩,hh⟩
  ·have:=ab (ab H 1 (.slice (some ⟨w.heap.size,0,none⟩) u.length u.length)) 2 (.int .i64 0);exact this
  ·exact bf (bf F (by omega) _) (by omega) _
theorem bT {α:Type}(Z:List α):splice Z 0 []=Z:=by simp[splice]
theorem sD (g room:Nat) (w:World) (u:g<w.heap.size) (h0:w.cell? ⟨g,0,none⟩=some (.int .i64 room)) (h1:w.cell? ⟨g,1,none⟩=some (.slice none 0 0)) (h2:w.cell? ⟨g,2,none⟩=some (.int .i64 0))
  (fz:∀k,w.frozen? ⟨g,k,none⟩=false) (hr:1<=room) :
  Kb 251 #[.pointer (some ⟨g,0,none⟩)] w fun e w'=>e=.returned (.tuple #[])/\∃W,Kc w W/\W.heap[w.heap.size]?=some (.cells (au aY [none]).toArray 113 (0,0)) /\
   w'=(W.setCell ⟨g,1,none⟩ (.slice (some ⟨w.heap.size,0,none⟩) 1 1)).setCell ⟨g,2,none⟩ (.int .i64 0):=by
 have HM:=FT 1 (by omega);have FZ:=ku fz;clear fz;rw[show List.replicate 1 (none:Option Nat)=[none]from rfl,show((1:Nat):Int)=1 from rfl]at HM;obtain⟨H,ae⟩:∃H,au aY [none]=H:=⟨_,rfl⟩;rw[ae]at HM ⊢;have aa:Hid (H.length=1):=by show _=_;rw[<-ae];rfl
 clear ae
 have q3:max (1:Int) 0=1:=by omega
 by_cases hc:1<room
 ·have q2:(1:Int)<(room:Int):=by omega
  have q4:min (room:Int) 1=1:=by omega
  go_enter func251,ntmps251
  go_wp2_with fail
  go_region
  clear HM;obtain⟨W1,G⟩:∃W1,(w.alloc (.cells H.toArray 113)).drew=W1:=⟨_,rfl⟩;have ab:Hid (W1.heap[w.heap.size]?=some (.cells H.toArray 113 (0,0))):=by show _=_;rw[<-G];exact Mo w _
  have I:Kc w W1:=by rw[<-G];exact((gt _ w).alloc (ge _) _).drew
  rw[G];clear G;have d1:=(I.cell (p:=⟨g,1,none⟩) u).trans h1;have d2:=(I.cell (p:=⟨g,2,none⟩) u).trans h2
  go_wp2_with fail
  go_region_law (refine aD rfl (.tmp 17) (.tmp 26) 311 311 rfl 113 1 underlying311 Tryz.size113 _ _ _ _ _ _ rfl rfl w.heap.size 0 H 113 ab.out [] 0 (by first|rfl|simp) rfl (fun h=>absurd h (by omega)) (by rw[aa.out];exact Kj _) (fun _ h=>nomatch h) w.heap.size w I.drew (ge _) ?_;intro w4 M J)
  all_goals(
   have f1:=(J.cell (p:=⟨g,1,none⟩) u).trans h1;have f2:=(J.cell (p:=⟨g,2,none⟩) u).trans h2;have ac:Hid (w4.heap[w.heap.size]?=some (.cells H.toArray 113 (0,0))):=by have:=M.out;rw[bT]at this;exact this
   clear M
   go_wp2_with fail
   go_region_law (refine aD rfl (.tmp 30) (.tmp 39) 311 311 rfl 113 1 underlying311 Tryz.size113 _ _ _ _ _ _ rfl rfl w.heap.size 0 H 113 ac.out [] 0 (by first|rfl|simp) rfl (fun h=>absurd h (by omega)) (by rw[aa.out];exact Kj _) (fun _ h=>nomatch h) w.heap.size w J.drew (ge _) ?_;intro w5 O F))
  all_goals(
   clear f1 f2;have f1:=(F.cell (p:=⟨g,1,none⟩) u).trans h1;have f2:=(F.cell (p:=⟨g,2,none⟩) u).trans h2;have f3:=(F.frozen (p:=⟨g,1,none⟩) u).trans (FZ.out 1);have f4:=(F.frozen (p:=⟨g,2,none⟩) u).trans (FZ.out 2);have ad:Hid (w5.heap[w.heap.size]?=some (.cells H.toArray 113 (0,0))):=by have:=O.out;rw[bT]at this;exact this
   clear O
   go_wp2_with fail
   go_end0
   exact⟨rfl,w5,F,ad.out,rfl⟩)
 ·have q2:¬((1:Int)<(room:Int)):=by omega
  obtain rfl:room=1:=by omega
  have q4:min (1:Int) 1=1:=by omega
  go_enter func251,ntmps251
  go_wp2_with fail
  go_region
  clear HM;obtain⟨W1,G⟩:∃W1,(w.alloc (.cells H.toArray 113)).drew=W1:=⟨_,rfl⟩;have ab:Hid (W1.heap[w.heap.size]?=some (.cells H.toArray 113 (0,0))):=by show _=_;rw[<-G];exact Mo w _
  have I:Kc w W1:=by rw[<-G];exact((gt _ w).alloc (ge _) _).drew
  rw[G];clear G;have d1:=(I.cell (p:=⟨g,1,none⟩) u).trans h1;have d2:=(I.cell (p:=⟨g,2,none⟩) u).trans h2
  go_wp2_with fail
  go_region_law (refine aD rfl (.tmp 17) (.tmp 26) 311 311 rfl 113 1 underlying311 Tryz.size113 _ _ _ _ _ _ rfl rfl w.heap.size 0 H 113 ab.out [] 0 (by first|rfl|simp) rfl (fun h=>absurd h (by omega)) (by rw[aa.out];exact Kj _) (fun _ h=>nomatch h) w.heap.size w I.drew (ge _) ?_;intro w4 M J)
  all_goals(
   have f1:=(J.cell (p:=⟨g,1,none⟩) u).trans h1;have f2:=(J.cell (p:=⟨g,2,none⟩) u).trans h2;have ac:Hid (w4.heap[w.heap.size]?=some (.cells H.toArray 113 (0,0))):=by have:=M.out;rw[bT]at this;exact this
   clear M
   go_wp2_with fail
   go_region_law (refine aD rfl (.tmp 30) (.tmp 39) 311 311 rfl 113 1 underlying311 Tryz.size113 _ _ _ _ _ _ rfl rfl w.heap.size 0 H 113 ac.out [] 0 (by first|rfl|simp) rfl (fun h=>absurd h (by omega)) (by rw[aa.out];exact Kj _) (fun _ h=>nomatch h) w.heap.size w J.drew (ge _) ?_;intro w5 O F))
  all_goals(
   clear f1 f2;have f1:=(F.cell (p:=⟨g,1,none⟩) u).trans h1;have f2:=(F.cell (p:=⟨g,2,none⟩) u).trans h2;have f3:=(F.frozen (p:=⟨g,1,none⟩) u).trans (FZ.out 1);have f4:=(F.frozen (p:=⟨g,2,none⟩) u).trans (FZ.out 2);have ad:Hid (w5.heap[w.heap.size]?=some (.cells H.toArray 113 (0,0))):=by have:=O.out;rw[bT]at this;exact this
   clear O
   go_wp2_with fail
   go_end0
   exact⟨rfl,w5,F,ad.out,rfl⟩)
theorem sE (own:Nat->Nat) (i g room front:Nat) (sv:Value) (H l:List (Option Nat)) (w:World) (u:jY own i w g room sv H front l) (J:Nf own w) (hf:l.length=H.length) (hr:H.length<room) :
  Kb 251 #[.pointer (some ⟨g,0,none⟩)] w fun e w'=>e=.returned (.tuple #[])/\∃own' b I,Nf own' w'/\Fr i own own' w w'/\jY own' i w' g room (.slice (some ⟨b,0,none⟩) I.length I.length) I 0 l/\l.length<I.length:=by
 have hg:=ai u.blk
 rcases u.row with⟨rfl,rfl,rfl⟩|⟨b,rfl,hb,ab,aa,O⟩
 ·refine(sD g room w hg u.c0 u.c1 u.c2 u.fz u.r1).mono ?_;rintro e w'⟨rfl,W,M,G,rfl⟩;obtain rfl:l=[]:=Kx hf;obtain⟨own',a,b,c⟩:=u.widened J M G rfl u.r1 (by simp) ⟨by simp,fun i hi=>absurd hi (by simp)⟩;exact⟨rfl,own',w.heap.size,[none],a,b,c,by simp⟩
 ·have h2:=u.r2;obtain⟨N,hN⟩:∃N,N=min room (2*H.length):=⟨_,rfl⟩;have F:(H.drop front++H.take front++List.replicate (N-H.length) none).length=N:=by rw[Kf,Kf,KB,Kz,Le];omega
  refine(pR g room H.length front N b none H w rfl hg u.c0 u.c1 u.c2 u.fz hb O h2 (by omega) (by omega) (by omega)).mono ?_;rintro e w'⟨rfl,W,M,G,rfl⟩;obtain⟨own',a,b,c⟩:=u.widened J M G F (by omega) (by omega) (u.hold.widen (Z:=List.replicate (N-H.length) none) (by omega) hf);refine⟨rfl,own',w.heap.size,_,a,b,by rw[F];exact c,by rw[F];omega⟩
theorem RG.put {enc:β->List Value}{own:Nat->Nat}{F G:List β}{u:Nat}{l l':List β}(h:RG T e enc own i w g room (.slice (some ⟨b,0,none⟩) F.length F.length) F front l)
  (O:W.heap[g]?=some (.cells #[.int .i64 room,.slice (some ⟨b,0,none⟩) F.length F.length,.int .i64 u,.int .i64 l'.length] T (0,0))) (M:W.heap[b]?=some (.cells (au enc G).toArray e (0,0)))
  (H:b≠g) (J:own b=i) (hl:G.length=F.length) (I:u < F.length) (hh:df G u l'):RG T e enc own i W g room (.slice (some ⟨b,0,none⟩) F.length F.length) G u l':=
 ⟨O,h.lab,h.r1,h.r2,by rw[hl];exact h.len,.inr ⟨b,by rw[hl],M,J,H,by rw[hl];exact I⟩,hh⟩
theorem tg (g room:Nat) (x:Option Nat) (w:World) (u:w.cell? ⟨g,0,none⟩=some (.int .i64 room)) (F:w.cell? ⟨g,3,none⟩=some (.int .i64 room)) :
  Kb 192 #[.pointer (some ⟨g,0,none⟩),.pointer (pa x)] w fun e w'=>e=.returned (.int .i64 50)/\∃m,w'=w.drewN m:=by
 go_enter func192,ntmps192
 go_wp2_with fail
 go_quiet (fail)
 go_wp2_with fail
 go_ret
 exact⟨rfl,⟨_,rfl⟩⟩
theorem xj (x:Option Nat) (w:World):Kb 192 #[.pointer none,.pointer (pa x)] w fun e w'=>e=.returned (.int .i64 3)/\w'=w:=by
 go_enter func192,ntmps192
 go_wp2_with fail
 go_ret
 exact⟨rfl,rfl⟩
theorem jY.pushed {own:Nat->Nat}{u:List (Option Nat)}{l:List (Option Nat)}(h:jY own i w g room (.slice (some ⟨b,0,none⟩) u.length u.length) u front l) (M:Nf own w) (H:w.heap[b]?=some (.cells (au aY u).toArray 113 (0,0))) (G:own b=i) (F:b≠g) (I:front<u.length) (J:l.length<u.length) (x:Option Nat) :
  wu own i w ((w.setCell ⟨b,(front+l.length) % u.length,none⟩ (.pointer (pa x))).setCell ⟨g,3,none⟩ (.int .i64 ((l.length:Int)+1))) g room (l++[x]):=by
 refine⟨own,_,_,front,fun k O=>M k (by rw[bF,bF]at O;exact O),((Fr.refl i own w).set' G _ _).set' h.lab _ _,h.put ?_ ?_ F G (LY) I (h.hold.push x J)⟩
 ·have:=ab (bf h.blk (MN F) (k:=(front+l.length) % u.length) (.pointer (pa x))) 3 (.int .i64 ((l.length:Int)+1));rw[this];simp
 ·have:=bf (ab H ((front+l.length) % u.length) (.pointer (pa x))) F (k:=3) (.int .i64 ((l.length:Int)+1));rw[yu]at this;exact this
theorem Ah (own:Nat->Nat) (i g room front b:Nat) (F l:List (Option Nat)) (x:Option Nat) (w:World) (G:jY own i w g room (.slice (some ⟨b,0,none⟩) F.length F.length) F front l) (J:Nf own w) (u:w.heap[b]?=some (.cells (au aY F).toArray 113 (0,0))) (M:own b=i) (I:b≠g) (ab:front<F.length) (ac:l.length<F.length) :
  Kb 192 #[.pointer (some ⟨g,0,none⟩),.pointer (pa x)] w fun e w'=>e=.returned (.int .i64 0)/\wu own i w w' g room (l++[x]):=by
 have H:Hid _:=G.pushed J u M I ab ac x;have h0:=G.c0;have h1:=G.c1;have h2:=G.c2;have h3:=G.c3;have fz:=G.fz 3;have af:=G.r2;have ag:=G.len;obtain⟨p,O⟩:∃p,(front+l.length) % F.length=p:=⟨_,rfl⟩;have ad:p<F.length:=by rw[<-O];exact LU _ (by omega)
 rw[O]at H;obtain⟨y,hy⟩:∃y,F[p]?=some y:=⟨_,Ke ad⟩;have hc:=aa u (gu hy);have ae:w.frozen? ⟨b,p,none⟩=false:=aj u;have HC:=ku fun W (a:W.cell? ⟨g,1,none⟩=some (.slice (some ⟨b,0,none⟩) F.length F.length)) (b:W.cell? ⟨g,2,none⟩=some (.int .i64 front))=>rS g F.length front l.length p _ W a b (by omega) (by omega) (by omega) O
 clear G J u M O hy
 generalize F.length=n at *
 generalize hL:l.length=c at *
 clear hL;have i1:(0:Int)<=(p:Int):=by omega
 have i2:(p:Int)<(n:Int):=by omega
 have q1:¬((c:Int)=(room:Int)):=by omega
 have q2:¬(c=room):=by omega
 have q3:¬((c:Int)=(n:Int)):=by omega
 have q4:¬(c=n):=by omega
 have q5:((c:Int)==(room:Int))=false:=by simp;omega
 have q6:((c:Int)==(n:Int))=false:=by simp;omega
 have q7:g≠b:=MN I
 go_enter func192,ntmps192
 go_wp2_with fail
 go_quiet (fail)
 go_wp2_with fail
 go_quiet (fail)
 go_wp2_with fail
 go_region_with (go_at_call 252;refine(HC.out _ (by simpa using h1) (by simpa using h2)).mono ?_;rintro e w1⟨rfl,m,rfl⟩)
 all_goals go_wp2_with fail
 all_goals go_ret
 all_goals exact⟨rfl,dq.same H.out rfl rfl rfl rfl⟩
theorem te (own:Nat->Nat) (i g room front:Nat) (sv:Value) (zs l:List (Option Nat)) (x:Option Nat) (w:World) (M:jY own i w g room sv zs front l) (af:Nf own w) (hf:l.length=zs.length) (hr:zs.length<room) :
  Kb 192 #[.pointer (some ⟨g,0,none⟩),.pointer (pa x)] w fun e w'=>e=.returned (.int .i64 0)/\wu own i w w' g room (l++[x]):=by
 have HW:Hid (∀m,Kb 251 #[.pointer (some ⟨g,0,none⟩)] (w.drewN m) fun e w'=>e=.returned (.tuple #[])/\∃own' b H,Nf own' w'/\Fr i own own' w w'/\jY own' i w' g room (.slice (some ⟨b,0,none⟩) H.length H.length) H 0 l/\l.length<H.length):=fun m=>
  (sE own i g room front sv zs l (w.drewN m) (M.same rfl) af hf hr).mono (fun e w' ⟨he,own',b,H,h1,J,h3⟩=>⟨he,own',b,H,h1,⟨J.os,J.tape,J.output,J.size,J.block,J.old⟩,h3⟩)
 have h0:=M.c0;have h1:=M.c1;have J:=M.c2;have h3:=M.c3;have an:=M.r2
 obtain⟨sp,ah⟩:∃sp,sv=.slice sp zs.length zs.length:=by
  rcases M.row with⟨rfl,rfl,_⟩|⟨b,rfl,_⟩
  ·exact⟨_,rfl⟩
  ·exact⟨_,rfl⟩
 rw[ah]at h1;rw[<-hf]at h1 hr;clear M af ah hf
 generalize hL:l.length=c at *
 have ac:=ku hL;clear hL;have q1:¬((c:Int)=(room:Int)):=by omega
 have q2:¬(c=room):=by omega
 have q5:((c:Int)==(room:Int))=false:=by simp;omega
 go_enter func192,ntmps192
 go_wp2_with fail
 go_quiet (fail)
 go_wp2_with fail
 go_quiet (fail)
 go_wp2_with fail
 refine(HW.out _).mono ?_;rintro e w2⟨rfl,own2,b,G,ab,O,F,ai⟩;clear h0 h1 J h3;have u:=F.row
 rcases u with⟨_,h,_⟩|⟨b',ad,u,ag,ae,ak⟩
 ·cases h
 ·obtain rfl:b'=b:=by cases ad;rfl
  clear ad;have I:=ku (dq.trans O (F.pushed ab u ag ae ak (by rw[ac.out];exact ai) x));have h0:=F.c0;have h1:=F.c1;have J:=F.c2;have h3:=F.c3;have fz:=F.fz 3;have ap:=F.len;rw[ac.out]at I h3;obtain⟨p,hp⟩:∃p,(0+c) % G.length=p:=⟨_,rfl⟩;have al:p<G.length:=by rw[<-hp];exact LU _ (by omega)
  rw[hp]at I;obtain⟨y,hy⟩:∃y,G[p]?=some y:=⟨_,Ke al⟩;have hc:=aa u (gu hy);have am:w2.frozen? ⟨b',p,none⟩=false:=aj u;have HC:=ku fun W (a:W.cell? ⟨g,1,none⟩=some (.slice (some ⟨b',0,none⟩) G.length G.length)) (b:W.cell? ⟨g,2,none⟩=some (.int .i64 (0:Nat)))=>rS g G.length 0 c p _ W a b (by omega) (by omega) (by omega) hp
  clear F ab O u ag hp hy HW
  generalize G.length=n at *
  have i1:(0:Int)<=(p:Int):=by omega
  have i2:(p:Int)<(n:Int):=by omega
  have q7:g≠b':=MN ae
  go_wp2_with fail
  go_region_with (go_at_call 252;refine(HC.out _ (by simpa using h1) (by simpa using J)).mono ?_;rintro e w1⟨rfl,m,rfl⟩)
  all_goals go_wp2_with fail
  all_goals go_ret
  all_goals exact⟨rfl,dq.same I.out rfl rfl rfl rfl⟩
theorem mW (own:Nat->Nat) (i g room front:Nat) (sv:Value) (H l:List (Option Nat)) (x:Option Nat) (w:World) (G:jY own i w g room sv H front l) (u:Nf own w) (hr:l.length<room) :
  Kb 192 #[.pointer (some ⟨g,0,none⟩),.pointer (pa x)] w fun e w'=>e=.returned (.int .i64 0)/\wu own i w w' g room (l++[x]):=by
 have I:=G.hold.1
 by_cases J:l.length=H.length
 ·exact te own i g room front sv H l x w G u J (by omega)
 ·have F:=G.row
  rcases F with⟨rfl,_,_⟩|⟨b,rfl,M,O,h3,h4⟩
  ·rw[LB]at I J;omega
  ·exact Ah own i g room front b H l x w G u M O h3 h4 (by omega)
theorem RG.nonempty {enc:β->List Value}{own:Nat->Nat}{u:List β}{l:List β}(h:RG T e enc own i w g room sv u front l) (hl:0<l.length) :
  ∃b,sv=.slice (some ⟨b,0,none⟩) u.length u.length/\w.heap[b]?=some (.cells (au enc u).toArray e (0,0))/\own b=i/\b≠g/\front<u.length:=by
 rcases h.row with⟨rfl,_,_⟩|F
 ·have:=h.hold.1;rw[LB]at this;omega
 ·exact F
theorem jY.popped {own:Nat->Nat}{G:List (Option Nat)}{l l':List (Option Nat)}(h:jY own i w g room (.slice (some ⟨b,0,none⟩) G.length G.length) G front l) (M:Nf own w) (I:w.heap[b]?=some (.cells (au aY G).toArray 113 (0,0))) (H:own b=i) (F:b≠g) (p u:Nat) (J:u < G.length) (c:Int) (hc:c=(l'.length:Int)) (hh:df (G.set p none) u l') :
  wu own i w (((w.setCell ⟨b,p,none⟩ (.pointer none)).setCell ⟨g,2,none⟩ (.int .i64 u)).setCell ⟨g,3,none⟩ (.int .i64 c)) g room l':=by
 subst hc;refine⟨own,_,_,u,fun k O=>M k (by rw[bF,bF,bF]at O;exact O),(((Fr.refl i own w).set' H _ _).set' h.lab _ _).set' h.lab _ _,h.put ?_ ?_ F H (LY) J hh⟩
 ·have:=ab (ab (bf h.blk (MN F) (k:=p) (.pointer none)) 2 (.int .i64 u)) 3 (.int .i64 (l'.length:Int));rw[this];simp
 ·have:=bf (bf (ab I p (.pointer none)) F (k:=2) (.int .i64 u)) F (k:=3) (.int .i64 (l'.length:Int));rw[ny]at this;exact this
theorem jY.poppedB {own:Nat->Nat}{F:List (Option Nat)}{l l':List (Option Nat)}(h:jY own i w g room (.slice (some ⟨b,0,none⟩) F.length F.length) F front l) (J:Nf own w) (H:w.heap[b]?=some (.cells (au aY F).toArray 113 (0,0))) (G:own b=i) (u:b≠g) (p:Nat) (I:front<F.length) (c:Int) (hc:c=(l'.length:Int)) (O:df (F.set p none) front l') :
  wu own i w ((w.setCell ⟨b,p,none⟩ (.pointer none)).setCell ⟨g,3,none⟩ (.int .i64 c)) g room l':=by
 subst hc;refine⟨own,_,_,front,fun k M=>J k (by rw[bF,bF]at M;exact M),((Fr.refl i own w).set' G _ _).set' h.lab _ _,h.put ?_ ?_ u G (LY) I O⟩
 ·have:=ab (bf h.blk (MN u) (k:=p) (.pointer none)) 3 (.int .i64 (l'.length:Int));rw[this];simp
 ·have:=bf (ab H p (.pointer none)) u (k:=3) (.int .i64 (l'.length:Int));rw[ny]at this;exact this
theorem xn (own:Nat->Nat) (i g room front:Nat) (sv:Value) (G l:List (Option Nat)) (x:Option Nat) (w:World) (u:jY own i w g room sv G front l) (J:Nf own w) (hx:l[0]?=some x) :
  Kb 205 #[.pointer (some ⟨g,0,none⟩)] w fun e w'=>e=.returned (.tuple #[.pointer (pa x),.int .i64 0])/\wu own i w w' g room l.tail:=by
 have H:0<l.length:=(Kq.1 hx).1;obtain⟨b,rfl,F,M,I,ag⟩:=u.nonempty H;have ah:=u.hold.1;have ai:=u.r2;have ak:=u.len;have h1:=u.c1;have h2:=u.c2;have h3:=u.c3;have ae:=u.fz 2;have af:=u.fz 3;obtain⟨p,hp⟩:∃p,(front+0) % G.length=p:=⟨_,rfl⟩;obtain⟨q,hq⟩:∃q,(front+1) % G.length=q:=⟨_,rfl⟩;have ac:p<G.length:=by rw[<-hp];exact LU _ (by omega)
 have ad:q<G.length:=by rw[<-hq];exact LU _ (by omega)
 have hy:G[p]?=some x:=by rw[<-hp,<-u.hold.2 0 H];exact hx
 have O:Hid _:=u.popped J F M I p q ad ((l.length:Int)-1) (l':=l.tail) (by rw[O3];omega) (by have:=u.hold.popFront none H;rw[hp,hq]at this;exact this);have hc:=aa F (gu hy);have ab:w.frozen? ⟨b,p,none⟩=false:=aj F;have HS:=ku (FJ g l.length w h3 H);have HE:=ku (BK g G.length front 0 p b x w h1 h2 ac (by omega) (by omega) hp hc ab);have HC:=ku fun W (a:W.cell? ⟨g,1,none⟩=some (.slice (some ⟨b,0,none⟩) G.length G.length)) (b:W.cell? ⟨g,2,none⟩=some (.int .i64 front))=>rS g G.length front 1 q _ W a b (by omega) (by omega) (by omega) hq
 clear J F M hp hq hy hx;have q7:g≠b:=MN I
 have D1:Hid (∀m,((w.drewN m).setCell ⟨b,p,none⟩ (.pointer none)).cell? ⟨g,1,none⟩=some (.slice (some ⟨b,0,none⟩) G.length G.length)/\((w.drewN m).setCell ⟨b,p,none⟩ (.pointer none)).cell? ⟨g,2,none⟩=some (.int .i64 front)):=fun m=>by
  have:=bf (W:=w.drewN m) (k:=p) u.blk q7 (.pointer none);exact⟨aa this rfl,aa this rfl⟩
 clear u
 generalize G.length=n at *
 generalize hL:l.length=c at *
 clear hL
 go_enter func205,ntmps205
 go_wp2_with fail
 refine HS.out.mono ?_;rintro e w1⟨rfl,rfl⟩
 go_wp2_with fail
 refine HE.out.mono ?_;rintro e w2⟨rfl,m,rfl⟩
 go_wp2_with fail
 refine(HC.out _ (D1.out m).1 (D1.out m).2).mono ?_;rintro e w3⟨rfl,m2,rfl⟩
 go_wp2_with fail
 go_ret2
 exact⟨rfl,dq.same O.out rfl rfl rfl rfl⟩
theorem xr (own:Nat->Nat) (i g room front:Nat) (sv:Value) (H l:List (Option Nat)) (x:Option Nat) (w:World) (F:jY own i w g room sv H front l) (J:Nf own w) (G:0<l.length) (hx:l[l.length-1]?=some x) :
  Kb 272 #[.pointer (some ⟨g,0,none⟩)] w fun e w'=>e=.returned (.tuple #[.pointer (pa x),.int .i64 0])/\wu own i w w' g room l.dropLast:=by
 obtain⟨b,rfl,u,M,I,ac⟩:=F.nonempty G;have af:=F.hold.1;have ag:=F.r2;have ah:=F.len;have h1:=F.c1;have h2:=F.c2;have h3:=F.c3;have ae:=F.fz 3;obtain⟨p,hp⟩:∃p,(front+(l.length-1)) % H.length=p:=⟨_,rfl⟩;have ad:p<H.length:=by rw[<-hp];exact LU _ (by omega)
 have hy:H[p]?=some x:=by rw[<-hp,<-F.hold.2 (l.length-1) (by omega)];exact hx
 have O:Hid _:=F.poppedB J u M I p ac ((l.length:Int)-1) (l':=l.dropLast) (by rw[NY];omega) (by have:=F.hold.popBack none G;rw[hp]at this;exact this);have hc:=aa u (gu hy);have ab:w.frozen? ⟨b,p,none⟩=false:=aj u;have HS:=ku (FJ g l.length w h3 G)
 have HE:Hid (Kb 264 #[.pointer (some ⟨g,0,none⟩),.int .i64 ((l.length:Int)-1)] w fun e w'=>e=.returned (.pointer (pa x))/\∃m,w'=(w.drewN m).setCell ⟨b,p,none⟩ (.pointer none)):=by
  have:=BK g H.length front (l.length-1) p b x w h1 h2 ad (by omega) (by omega) hp hc ab;rw[show((l.length-1:Nat):Int)=(l.length:Int)-1 by omega]at this;exact this
 clear J u M hp hy hx;have q7:g≠b:=MN I;clear F
 generalize H.length=n at *
 generalize hL:l.length=c at *
 clear hL
 go_enter func272,ntmps272
 go_wp2_with fail
 refine HS.out.mono ?_;rintro e w1⟨rfl,rfl⟩
 go_wp2_with fail
 refine HE.out.mono ?_;rintro e w2⟨rfl,m,rfl⟩
 go_wp2_with fail
 go_ret2
 exact⟨rfl,dq.same O.out rfl rfl rfl rfl⟩
theorem wk (k:Int) (w:World):Kb 196 #[.pointer none,.int .i64 k] w fun e w'=>e=.returned (.tuple #[.pointer none,.int .i64 3])/\w'=w:=by
 go_enter func196,ntmps196
 go_wp2_with fail
 refine(pP _ _).mono ?_;rintro e u⟨rfl,rfl⟩
 go_wp2_with fail
 go_ret2
 exact⟨rfl,rfl⟩
theorem wm (own:Nat->Nat) (i g room front k:Nat) (sv:Value) (F l:List (Option Nat)) (x:Option Nat) (w:World) (u:jY own i w g room sv F front l) (I:l[k]?=some x) :
  Kb 196 #[.pointer (some ⟨g,0,none⟩),.int .i64 k] w fun e w'=>e=.returned (.tuple #[.pointer (pa x),.int .i64 0])/\∃m,w'=w.drewN m:=by
 have H:k<l.length:=(Kq.1 I).1;obtain⟨b,rfl,G,J,ab,ac⟩:=u.nonempty (by omega);have ad:=u.hold.1;have af:=u.r2;have ag:=u.len;have h1:=u.c1;have h2:=u.c2;have h3:=u.c3;obtain⟨p,hp⟩:∃p,(front+k) % F.length=p:=⟨_,rfl⟩;have ae:p<F.length:=by rw[<-hp];exact LU _ (by omega)
 have M:F[p]?=some x:=by rw[<-hp,<-u.hold.2 k H];exact I
 have hc:=aa G (gu M);have O:=ku (C5 g l.length k w h3 H);have HC:=ku fun W (a:W.cell? ⟨g,1,none⟩=some (.slice (some ⟨b,0,none⟩) F.length F.length)) (b:W.cell? ⟨g,2,none⟩=some (.int .i64 front))=>rS g F.length front k p _ W a b (by omega) (by omega) (by omega) hp
 clear u G J hp M I H
 generalize F.length=n at *
 have i1:(0:Int)<=(p:Int):=by omega
 have i2:(p:Int)<(n:Int):=by omega
 go_enter func196,ntmps196
 go_wp2_with fail
 refine O.out.mono ?_;rintro e w1⟨rfl,rfl⟩
 go_wp2_with fail
 go_quiet ((go_at_call 252;exact Calls.quiet_of (HC.out _ (by simpa using h1) (by simpa using h2))))
 go_wp2_with fail
 go_ret2
 exact⟨rfl,⟨_,rfl⟩⟩
def aX (x:Option Nat):List Value:=[.pointer (pa x)]
theorem lH (u:List (Option Nat)):au aX u=u.map (fun x=>Value.pointer (pa x)):=by
 induction u with
 |nil=>rfl
 |cons x r ih=>rw[du,ih];rfl
theorem gr {u:List (Option Nat)}{k:Nat}{x:Option Nat}(h:u[k]?=some x):(au aX u).toArray[k]?=some (.pointer (pa x)):=by
 rw[lH];simp[h]
theorem nx (u:List (Option Nat)) (k:Nat):(au aX u).toArray.setIfInBounds k (.pointer none)=(au aX (u.set k none)).toArray:=by
 rw[lH,lH,Mg,O7];rfl
theorem yt (u:List (Option Nat)) (k:Nat) (x:Option Nat):(au aX u).toArray.setIfInBounds k (.pointer (pa x))=(au aX (u.set k x)).toArray:=by
 rw[lH,lH,Mg,O7]
abbrev my:=RG (β:=Option Nat) 206 173 aX
theorem rR (g n front k p:Nat) (G:Option Addr) (w:World) (H:w.cell? ⟨g,1,none⟩=some (.slice G n n)) (I:w.cell? ⟨g,2,none⟩=some (.int .i64 front)) (O:0<n) (J:front<=2097152) (M:k<=2097152) (u:(front+k) % n=p) :
  Kb 254 #[.pointer (some ⟨g,0,none⟩),.int .i64 k] w fun e w'=>e=.returned (.int .i64 p)/\∃m,w'=w.drewN m:=by
 have q1:¬((n:Int)=0):=by omega
 have F:Hid (((front:Int)+(k:Int)) % (n:Int)=(p:Int)):=by show _=_;rw[<-u];simp
 clear u
 go_enter func254,ntmps254
 go_wp2_with fail
 go_quiet (fail)
 go_wp2_with fail
 go_ret
 exact⟨Kw (fun z=>Ending.returned (.int .i64 z)) F.out,⟨_,rfl⟩⟩
theorem FI (g c:Nat) (w:World) (h:w.cell? ⟨g,3,none⟩=some (.int .i64 c)) (hc:0<c):Kb 265 #[.pointer (some ⟨g,0,none⟩)] w fun e w'=>e=.returned (.int .i64 0)/\w'=w:=by
 have u:((c:Int)==0)=false:=by simp;omega
 have F:¬((c:Int)=0):=by omega
 have G:¬(c=0):=by omega
 go_enter func265,ntmps265
 go_wp2_with fail
 go_ret
 exact⟨rfl,rfl⟩
theorem pN (g:Nat) (k:Int) (w:World) (u:k<0):Kb 286 #[.pointer (some ⟨g,0,none⟩),.int .i64 k] w fun e w'=>e=.returned (.int .i64 1)/\w'=w:=by
 have F:decide (k<0)=true:=by simp;omega
 go_enter func286,ntmps286
 go_wp2_with fail
 go_ret
 exact⟨rfl,rfl⟩
theorem pM (g c:Nat) (k:Int) (w:World) (h:w.cell? ⟨g,3,none⟩=some (.int .i64 c)) (u:(c:Int)<=k):Kb 286 #[.pointer (some ⟨g,0,none⟩),.int .i64 k] w fun e w'=>e=.returned (.int .i64 1)/\w'=w:=by
 have F:decide (k<0)=false:=by simp;omega
 have G:decide ((c:Int)<=k)=true:=by simp;omega
 go_enter func286,ntmps286
 go_wp2_with fail
 go_ret
 exact⟨rfl,rfl⟩
theorem C4 (g c k:Nat) (w:World) (h:w.cell? ⟨g,3,none⟩=some (.int .i64 c)) (u:k<c):Kb 286 #[.pointer (some ⟨g,0,none⟩),.int .i64 k] w fun e w'=>e=.returned (.int .i64 0)/\w'=w:=by
 have F:decide ((k:Int)<0)=false:=by simp
 have G:decide ((c:Int)<=(k:Int))=false:=by simp;omega
 have H:¬((c:Int)<=(k:Int)):=by omega
 have I:¬(c<=k):=by omega
 go_enter func286,ntmps286
 go_wp2_with fail
 go_ret
 exact⟨rfl,rfl⟩
theorem JR (g c:Nat) (w:World) (h:w.cell? ⟨g,3,none⟩=some (.int .i64 c)):Kb 250 #[.pointer (some ⟨g,0,none⟩)] w fun e w'=>e=.returned (.int .i64 c)/\w'=w:=by
 go_enter func250,ntmps250
 go_wp2_with fail
 go_ret
 exact⟨rfl,rfl⟩
theorem JO (k:Nat) (w:World) (u:1<=k) (F:k<=2097152):Kb 82 #[.int .i64 k] w fun e w'=>e=.returned (.tuple #[.pointer (some ⟨w.heap.size,0,none⟩),.int .i64 0])/\w'=w.alloc (.cells #[.int .i64 k,.slice none 0 0,.int .i64 0,.int .i64 0] 206):=by
 have G:decide ((k:Int)<1)=false:=by simp;omega
 have H:decide (2097152<(k:Int))=false:=by simp;omega
 have I:¬((k:Int)<1):=by omega
 have J:¬(2097152<(k:Int)):=by omega
 go_enter func82,ntmps82
 go_wp2_with fail
 go_ret2
 exact⟨rfl,rfl⟩
theorem BJ (g n front k p b:Nat) (x:Option Nat) (w:World) (F:w.cell? ⟨g,1,none⟩=some (.slice (some ⟨b,0,none⟩) n n)) (G:w.cell? ⟨g,2,none⟩=some (.int .i64 front)) (M:p<n) (H:front<=2097152) (I:k<=2097152) (u:(front+k) % n=p)
  (O:w.cell? ⟨b,p,none⟩=some (.pointer (pa x))) (J:w.frozen? ⟨b,p,none⟩=false) :
  Kb 266 #[.pointer (some ⟨g,0,none⟩),.int .i64 k] w fun e w'=>e=.returned (.pointer (pa x))/\∃m,w'=(w.drewN m).setCell ⟨b,p,none⟩ (.pointer none):=by
 have HC:=ku fun W (a:W.cell? ⟨g,1,none⟩=some (.slice (some ⟨b,0,none⟩) n n)) (b:W.cell? ⟨g,2,none⟩=some (.int .i64 front))=>rR g n front k p _ W a b (by omega) H I u
 have i1:(0:Int)<=(p:Int):=by omega
 have i2:(p:Int)<(n:Int):=by omega
 clear u
 go_enter func266,ntmps266
 go_wp2_with fail
 refine(HC.out _ F G).mono ?_;rintro e w1⟨rfl,m,rfl⟩
 go_wp2_with fail
 go_ret
 exact⟨rfl,m,rfl⟩
