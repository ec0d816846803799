import Derived.Test.YtcmbkeghnmgbfaaGreatDoorM16
set_option linter.all false
set_option maxHeartbeats 1000000
namespace Go.Proofs.YtcmbkeghnmgbfaaGreatDoor.Lw
open Go.Proofs.Tryz
open Lx
open Go.RowKit
variable {i g room b front:Nat}
theorem Tryz.info173:(Tryz.prog.info? 173).map (fun i=>(i.zero,i.size,i.bytes))=some (some (.pointer none),1,8):=by kernel_rfl
theorem Tryz.size173:(Tryz.prog.info? 173).map (·.size)=some 1:=by kernel_rfl
theorem FS (N:Nat) (J:N<=2097152) (w:World):(Instr.makeSlice 204 (.int .i64 (N:Int)) (.int .i64 (N:Int))).run Tryz.prog w=.ok (.slice (some ⟨w.heap.size,0,none⟩) N N) (w.alloc (.cells (au aX (List.replicate N none)).toArray 173)):=by
 obtain⟨I,H,u,F,G⟩:=LJ Tryz.info173;have h:=run_make (P:=Tryz.prog) w 204 173 I (.pointer none) underlying204 H u .i64 .i64 (N:Int) (N:Int) (by omega) (by omega) (by rw[G];omega) (by omega)
 have hc:madeCells (Value.pointer none).cells ((N:Int).toNat*1)=(au aX (List.replicate N none)).toArray:=by
  rw[lH]
  apply L4.1
  show(madeCells #[.pointer none] _).toList=_
  rw[toList_madeCells_one];simp
 rw[h,F,hc,Lp]
theorem gF {u:List (Option Nat)}{v:Value}(h:v∈au aX u):v.oneCell'=true:=by
 rw[lH]at h;obtain⟨x,_,rfl⟩:=Mi.1 h;rfl
theorem pQ (g room n front N b:Nat) (x:Option Nat) (F:List (Option Nat)) (w:World) (av:F.length=n) (G:g<w.heap.size) (h0:w.cell? ⟨g,0,none⟩=some (.int .i64 room)) (h1:w.cell? ⟨g,1,none⟩=some (.slice (some ⟨b,0,none⟩) n n)) (h2:w.cell? ⟨g,2,none⟩=some (.int .i64 front))
  (fz:∀k,w.frozen? ⟨g,k,none⟩=false)
  (aw:w.heap[b]?=some (.cells (au aX F).toArray 173 (0,0))) (az:front<n)
  (hr:room<=2097152) (hn:n<N) (hN:N<=room) (c:(2*n<room/\N=2*n)\/(room<=2*n/\N=room)) :
  Kb 253 #[.pointer (some ⟨g,0,none⟩)] w fun e w'=>e=.returned (.tuple #[])/\∃W,Kc w W/\W.heap[w.heap.size]?=some (.cells (au aX (F.drop front++F.take front++List.replicate (N-n) none)).toArray 173 (0,0)) /\
   w'=(W.setCell ⟨g,1,none⟩ (.slice (some ⟨w.heap.size,0,none⟩) N N)).setCell ⟨g,2,none⟩ (.int .i64 0):=by
 have HM:=FS N (by omega);have I:=ku aw;have ah:=ku av;have FZ:=ku fz;have q1:(1:Int)<2*(n:Int):=by omega
 have q3:max (1:Int) (2*(n:Int))=2*(n:Int):=by omega
 clear aw av fz
 rcases c with⟨c1,c2⟩|⟨c1,c2⟩
 ·have q2:2*(n:Int)<(room:Int):=by omega
  have q4:min (room:Int) (2*(n:Int))=2*(n:Int):=by omega
  rw[show((N:Nat):Int)=2*(n:Int)by omega]at HM;clear c1 c2
  go_enter func253,ntmps253
  go_wp2_with fail
  go_region
  clear HM;obtain⟨W1,ad⟩:∃W1,(w.alloc (.cells (au aX (List.replicate N none)).toArray 173)).drew=W1:=⟨_,rfl⟩;have aj:Hid (W1.heap[w.heap.size]?=some (.cells (au aX (List.replicate N none)).toArray 173 (0,0))):=by show _=_;rw[<-ad];exact Mo w _
  have ab:Kc w W1:=by rw[<-ad];exact((gt _ w).alloc (ge _) _).drew
  rw[ad];clear ad;have d1:=(ab.cell (p:=⟨g,1,none⟩) G).trans h1;have d2:=(ab.cell (p:=⟨g,2,none⟩) G).trans h2;have e1:(front:Int)<=(n:Int):=by omega
  have e2:¬(n=front):=by omega
  have af:Hid (∀W,Kc w W->∀j v,(au aX (F.drop front))[j]?=some v->W.cell? ((⟨b,front,none⟩:Addr).add j)=some v):=fun W hW j v J=>by
   have ag:(au aX F)[front+j]?=some v:=by
    rw[<-KD,show front=front*1 by omega,bR aX 1 (fun _=>rfl)];exact J
   rw[KV];exact aa ((hW.block b (ai I.out)).trans I.out) (by rw[LD];exact ag)
  have al:Hid (∀W,Kc w W->∀j v,(au aX (F.take front))[j]?=some v->W.cell? ((⟨b,0,none⟩:Addr).add j)=some v):=fun W hW j v J=>by
   have ag:(au aX F)[j]?=some v:=by
    have h:(au aX (F.take front))=(au aX F).take front:=by rw[<-ez aX 1 (fun _=>rfl),MA]
    rw[h,KI]at J
    split at J
    ·exact J
    ·cases J
   rw[KV,Km];exact aa ((hW.block b (ai I.out)).trans I.out) (by rw[LD];exact ag)
  have H:Hid ((au aX (F.drop front)).length=(n-front)*1):=by show _=_;rw[bo aX 1 (fun _=>rfl),KB,ah.out]
  have O:Hid ((au aX (F.take front)).length=front*1):=by show _=_;rw[bo aX 1 (fun _=>rfl),Kz,ah.out];congr 1;omega
  have M:Hid ((au aX (List.replicate N none)).length=N):=by show _=_;rw[bo aX 1 (fun _=>rfl),Le,MA]
  have u:Hid (splice (splice (au aX (List.replicate N none)) 0 (au aX (F.drop front))) (n-front) (au aX (F.take front))=au aX (F.drop front++F.take front++List.replicate (N-n) none)):=by
   show _=_
   have:=M.out;have:=H.out;have:=O.out;rw[fM _ _ _ _ (by omega) (by omega),aW,aW,Ks]
   congr 2
   rw[O.out,show n-front+front*1=n*1 by omega,bR aX 1 (fun _=>rfl),Ni]
  obtain⟨Z0,an⟩:∃Z0,au aX (List.replicate N none)=Z0:=⟨_,rfl⟩;obtain⟨A1,hA1⟩:∃A1,au aX (F.drop front)=A1:=⟨_,rfl⟩;obtain⟨A2,hA2⟩:∃A2,au aX (F.take front)=A2:=⟨_,rfl⟩;have M1:Hid (∀v∈A1,v.oneCell'=true):=by show ∀v∈A1,_;rw[<-hA1];exact fun v=>gF
  have M2:Hid (∀v∈A2,v.oneCell'=true):=by show ∀v∈A2,_;rw[<-hA2];exact fun v=>gF
  rw[an]at aj M u;rw[hA1]at af H u;rw[hA2]at al O u;clear an hA1 hA2
  go_wp2_with fail
  go_region_law (refine aD rfl (.tmp 17) (.tmp 26) 204 204 rfl 173 1 underlying204 Tryz.size173 _ _ _ _ _ _ rfl rfl w.heap.size 0 Z0 173 aj.out A1 (n-front) (LE (by omega)).symm H.out (fun _=>⟨rfl,_,rfl,fun j v J=>by first|exact af.out _ ab.drew j v J|simpa using af.out _ ab.drew j v J⟩) (by rw[H.out,M.out];omega) M1.out w.heap.size w ab.drew (ge _) ?_;intro w4 aq ae)
  all_goals(
   have f1:=(ae.cell (p:=⟨g,1,none⟩) G).trans h1;have f2:=(ae.cell (p:=⟨g,2,none⟩) G).trans h2;have e3:((n-front:Nat):Int)<=(N:Int):=by omega
   have e4:¬(N=n-front):=by omega
   have am:Hid ((splice Z0 0 A1).length=N):=by show _=_;rw[ON _ _ _ (by rw[H.out,M.out];omega),M.out]
   have ak:=ku aq.out;obtain⟨Z1,ap⟩:∃Z1,splice Z0 0 A1=Z1:=⟨_,rfl⟩;rw[ap]at ak u am;clear aq ap;obtain⟨k,hk⟩:∃k,n-front=k:=⟨_,rfl⟩;rw[hk]at u H e3 e4;have ay:k+front=n:=by omega
   rw[hk];clear hk
   go_wp2_with fail
   go_region_law (refine aD rfl (.tmp 30) (.tmp 39) 204 204 rfl 173 1 underlying204 Tryz.size173 _ _ _ _ _ _ rfl rfl w.heap.size k Z1 173 ak.out A2 front (LE (by omega)).symm O.out (fun _=>⟨by first|rfl|simp,_,rfl,fun j v J=>al.out _ ae.drew j v J⟩) (by rw[O.out,am.out];omega) M2.out w.heap.size w ae.drew (ge _) ?_;intro w5 ar ac))
  all_goals(
   clear f1 f2;have f1:=(ac.cell (p:=⟨g,1,none⟩) G).trans h1;have f2:=(ac.cell (p:=⟨g,2,none⟩) G).trans h2;have f3:=(ac.frozen (p:=⟨g,1,none⟩) G).trans (FZ.out 1);have f4:=(ac.frozen (p:=⟨g,2,none⟩) G).trans (FZ.out 2);have ax:Hid (w5.heap[w.heap.size]?=some (.cells (au aX (F.drop front++F.take front++List.replicate (N-n) none)).toArray 173 (0,0))):=by show _=_;rw[<-u.out];exact ar.out
   clear ar
   go_wp2_with fail
   go_end0
   exact⟨rfl,w5,ac,ax.out,rfl⟩)
 ·have q2:¬(2*(n:Int)<(room:Int)):=by omega
  have q4:min (room:Int) (2*(n:Int))=(room:Int):=by omega
  rw[show((N:Nat):Int)=(room:Int)by omega]at HM;clear c1 c2
  go_enter func253,ntmps253
  go_wp2_with fail
  go_region
  clear HM;obtain⟨W1,ad⟩:∃W1,(w.alloc (.cells (au aX (List.replicate N none)).toArray 173)).drew=W1:=⟨_,rfl⟩;have aj:Hid (W1.heap[w.heap.size]?=some (.cells (au aX (List.replicate N none)).toArray 173 (0,0))):=by show _=_;rw[<-ad];exact Mo w _
  have ab:Kc w W1:=by rw[<-ad];exact((gt _ w).alloc (ge _) _).drew
  rw[ad];clear ad;have d1:=(ab.cell (p:=⟨g,1,none⟩) G).trans h1;have d2:=(ab.cell (p:=⟨g,2,none⟩) G).trans h2;have e1:(front:Int)<=(n:Int):=by omega
  have e2:¬(n=front):=by omega
  have af:Hid (∀W,Kc w W->∀j v,(au aX (F.drop front))[j]?=some v->W.cell? ((⟨b,front,none⟩:Addr).add j)=some v):=fun W hW j v J=>by
   have ag:(au aX F)[front+j]?=some v:=by
    rw[<-KD,show front=front*1 by omega,bR aX 1 (fun _=>rfl)];exact J
   rw[KV];exact aa ((hW.block b (ai I.out)).trans I.out) (by rw[LD];exact ag)
  have al:Hid (∀W,Kc w W->∀j v,(au aX (F.take front))[j]?=some v->W.cell? ((⟨b,0,none⟩:Addr).add j)=some v):=fun W hW j v J=>by
   have ag:(au aX F)[j]?=some v:=by
    have h:(au aX (F.take front))=(au aX F).take front:=by rw[<-ez aX 1 (fun _=>rfl),MA]
    rw[h,KI]at J
    split at J
    ·exact J
    ·cases J
   rw[KV,Km];exact aa ((hW.block b (ai I.out)).trans I.out) (by rw[LD];exact ag)
  have H:Hid ((au aX (F.drop front)).length=(n-front)*1):=by show _=_;rw[bo aX 1 (fun _=>rfl),KB,ah.out]
  have O:Hid ((au aX (F.take front)).length=front*1):=by show _=_;rw[bo aX 1 (fun _=>rfl),Kz,ah.out];congr 1;omega
  have M:Hid ((au aX (List.replicate N none)).length=N):=by show _=_;rw[bo aX 1 (fun _=>rfl),Le,MA]
  have u:Hid (splice (splice (au aX (List.replicate N none)) 0 (au aX (F.drop front))) (n-front) (au aX (F.take front))=au aX (F.drop front++F.take front++List.replicate (N-n) none)):=by
   show _=_
   have:=M.out;have:=H.out;have:=O.out;rw[fM _ _ _ _ (by omega) (by omega),aW,aW,Ks]
   congr 2
   rw[O.out,show n-front+front*1=n*1 by omega,bR aX 1 (fun _=>rfl),Ni]
  obtain⟨Z0,an⟩:∃Z0,au aX (List.replicate N none)=Z0:=⟨_,rfl⟩;obtain⟨A1,hA1⟩:∃A1,au aX (F.drop front)=A1:=⟨_,rfl⟩;obtain⟨A2,hA2⟩:∃A2,au aX (F.take front)=A2:=⟨_,rfl⟩;have M1:Hid (∀v∈A1,v.oneCell'=true):=by show ∀v∈A1,_;rw[<-hA1];exact fun v=>gF
  have M2:Hid (∀v∈A2,v.oneCell'=true):=by show ∀v∈A2,_;rw[<-hA2];exact fun v=>gF
  rw[an]at aj M u;rw[hA1]at af H u;rw[hA2]at al O u;clear an hA1 hA2
  go_wp2_with fail
  go_region_law (refine aD rfl (.tmp 17) (.tmp 26) 204 204 rfl 173 1 underlying204 Tryz.size173 _ _ _ _ _ _ rfl rfl w.heap.size 0 Z0 173 aj.out A1 (n-front) (LE (by omega)).symm H.out (fun _=>⟨rfl,_,rfl,fun j v J=>by first|exact af.out _ ab.drew j v J|simpa using af.out _ ab.drew j v J⟩) (by rw[H.out,M.out];omega) M1.out w.heap.size w ab.drew (ge _) ?_;intro w4 aq ae)
  all_goals(
   have f1:=(ae.cell (p:=⟨g,1,none⟩) G).trans h1;have f2:=(ae.cell (p:=⟨g,2,none⟩) G).trans h2;have e3:((n-front:Nat):Int)<=(N:Int):=by omega
   have e4:¬(N=n-front):=by omega
   have am:Hid ((splice Z0 0 A1).length=N):=by show _=_;rw[ON _ _ _ (by rw[H.out,M.out];omega),M.out]
   have ak:=ku aq.out;obtain⟨Z1,ap⟩:∃Z1,splice Z0 0 A1=Z1:=⟨_,rfl⟩;rw[ap]at ak u am;clear aq ap;obtain⟨k,hk⟩:∃k,n-front=k:=⟨_,rfl⟩;rw[hk]at u H e3 e4;have ay:k+front=n:=by omega
   rw[hk];clear hk
   go_wp2_with fail
   go_region_law (refine aD rfl (.tmp 30) (.tmp 39) 204 204 rfl 173 1 underlying204 Tryz.size173 _ _ _ _ _ _ rfl rfl w.heap.size k Z1 173 ak.out A2 front (LE (by omega)).symm O.out (fun _=>⟨by first|rfl|simp,_,rfl,fun j v J=>al.out _ ae.drew j v J⟩) (by rw[O.out,am.out];omega) M2.out w.heap.size w ae.drew (ge _) ?_;intro w5 ar ac))
  all_goals(
   clear f1 f2;have f1:=(ac.cell (p:=⟨g,1,none⟩) G).trans h1;have f2:=(ac.cell (p:=⟨g,2,none⟩) G).trans h2;have f3:=(ac.frozen (p:=⟨g,1,none⟩) G).trans (FZ.out 1);have f4:=(ac.frozen (p:=⟨g,2,none⟩) G).trans (FZ.out 2);have ax:Hid (w5.heap[w.heap.size]?=some (.cells (au aX (F.drop front++F.take front++List.replicate (N-n) none)).toArray 173 (0,0))):=by show _=_;rw[<-u.out];exact ar.out
   clear ar
   go_wp2_with fail
   go_end0
   exact⟨rfl,w5,ac,ax.out,rfl⟩)
abbrev CC:=dq (β:=Option Nat) 206 173 aX
theorem sB (g room:Nat) (w:World) (u:g<w.heap.size) (h0:w.cell? ⟨g,0,none⟩=some (.int .i64 room)) (h1:w.cell? ⟨g,1,none⟩=some (.slice none 0 0)) (h2:w.cell? ⟨g,2,none⟩=some (.int .i64 0))
  (fz:∀k,w.frozen? ⟨g,k,none⟩=false) (hr:1<=room) :
  Kb 253 #[.pointer (some ⟨g,0,none⟩)] w fun e w'=>e=.returned (.tuple #[])/\∃W,Kc w W/\W.heap[w.heap.size]?=some (.cells (au aX [none]).toArray 173 (0,0)) /\
   w'=(W.setCell ⟨g,1,none⟩ (.slice (some ⟨w.heap.size,0,none⟩) 1 1)).setCell ⟨g,2,none⟩ (.int .i64 0):=by
 have HM:=FS 1 (by omega);have FZ:=ku fz;clear fz;rw[show List.replicate 1 (none:Option Nat)=[none]from rfl,show((1:Nat):Int)=1 from rfl]at HM;obtain⟨H,ae⟩:∃H,au aX [none]=H:=⟨_,rfl⟩;rw[ae]at HM ⊢;have aa:Hid (H.length=1):=by show _=_;rw[<-ae];rfl
 clear ae
 have q3:max (1:Int) 0=1:=by omega
 by_cases hc:1<room
 ·have q2:(1:Int)<(room:Int):=by omega
  have q4:min (room:Int) 1=1:=by omega
  go_enter func253,ntmps253
  go_wp2_with fail
  go_region
  clear HM;obtain⟨W1,G⟩:∃W1,(w.alloc (.cells H.toArray 173)).drew=W1:=⟨_,rfl⟩;have ab:Hid (W1.heap[w.heap.size]?=some (.cells H.toArray 173 (0,0))):=by show _=_;rw[<-G];exact Mo w _
  have I:Kc w W1:=by rw[<-G];exact((gt _ w).alloc (ge _) _).drew
  rw[G];clear G;have d1:=(I.cell (p:=⟨g,1,none⟩) u).trans h1;have d2:=(I.cell (p:=⟨g,2,none⟩) u).trans h2
  go_wp2_with fail
  go_region_law (refine aD rfl (.tmp 17) (.tmp 26) 204 204 rfl 173 1 underlying204 Tryz.size173 _ _ _ _ _ _ rfl rfl w.heap.size 0 H 173 ab.out [] 0 (by first|rfl|simp) rfl (fun h=>absurd h (by omega)) (by rw[aa.out];exact Kj _) (fun _ h=>nomatch h) w.heap.size w I.drew (ge _) ?_;intro w4 M J)
  all_goals(
   have f1:=(J.cell (p:=⟨g,1,none⟩) u).trans h1;have f2:=(J.cell (p:=⟨g,2,none⟩) u).trans h2;have ac:Hid (w4.heap[w.heap.size]?=some (.cells H.toArray 173 (0,0))):=by have:=M.out;rw[bT]at this;exact this
   clear M
   go_wp2_with fail
   go_region_law (refine aD rfl (.tmp 30) (.tmp 39) 204 204 rfl 173 1 underlying204 Tryz.size173 _ _ _ _ _ _ rfl rfl w.heap.size 0 H 173 ac.out [] 0 (by first|rfl|simp) rfl (fun h=>absurd h (by omega)) (by rw[aa.out];exact Kj _) (fun _ h=>nomatch h) w.heap.size w J.drew (ge _) ?_;intro w5 O F))
  all_goals(
   clear f1 f2;have f1:=(F.cell (p:=⟨g,1,none⟩) u).trans h1;have f2:=(F.cell (p:=⟨g,2,none⟩) u).trans h2;have f3:=(F.frozen (p:=⟨g,1,none⟩) u).trans (FZ.out 1);have f4:=(F.frozen (p:=⟨g,2,none⟩) u).trans (FZ.out 2);have ad:Hid (w5.heap[w.heap.size]?=some (.cells H.toArray 173 (0,0))):=by have:=O.out;rw[bT]at this;exact this
   clear O
   go_wp2_with fail
   go_end0
   exact⟨rfl,w5,F,ad.out,rfl⟩)
 ·have q2:¬((1:Int)<(room:Int)):=by omega
  obtain rfl:room=1:=by omega
  have q4:min (1:Int) 1=1:=by omega
  go_enter func253,ntmps253
  go_wp2_with fail
  go_region
  clear HM;obtain⟨W1,G⟩:∃W1,(w.alloc (.cells H.toArray 173)).drew=W1:=⟨_,rfl⟩;have ab:Hid (W1.heap[w.heap.size]?=some (.cells H.toArray 173 (0,0))):=by show _=_;rw[<-G];exact Mo w _
  have I:Kc w W1:=by rw[<-G];exact((gt _ w).alloc (ge _) _).drew
  rw[G];clear G;have d1:=(I.cell (p:=⟨g,1,none⟩) u).trans h1;have d2:=(I.cell (p:=⟨g,2,none⟩) u).trans h2
  go_wp2_with fail
  go_region_law (refine aD rfl (.tmp 17) (.tmp 26) 204 204 rfl 173 1 underlying204 Tryz.size173 _ _ _ _ _ _ rfl rfl w.heap.size 0 H 173 ab.out [] 0 (by first|rfl|simp) rfl (fun h=>absurd h (by omega)) (by rw[aa.out];exact Kj _) (fun _ h=>nomatch h) w.heap.size w I.drew (ge _) ?_;intro w4 M J)
  all_goals(
   have f1:=(J.cell (p:=⟨g,1,none⟩) u).trans h1;have f2:=(J.cell (p:=⟨g,2,none⟩) u).trans h2;have ac:Hid (w4.heap[w.heap.size]?=some (.cells H.toArray 173 (0,0))):=by have:=M.out;rw[bT]at this;exact this
   clear M
   go_wp2_with fail
   go_region_law (refine aD rfl (.tmp 30) (.tmp 39) 204 204 rfl 173 1 underlying204 Tryz.size173 _ _ _ _ _ _ rfl rfl w.heap.size 0 H 173 ac.out [] 0 (by first|rfl|simp) rfl (fun h=>absurd h (by omega)) (by rw[aa.out];exact Kj _) (fun _ h=>nomatch h) w.heap.size w J.drew (ge _) ?_;intro w5 O F))
  all_goals(
   clear f1 f2;have f1:=(F.cell (p:=⟨g,1,none⟩) u).trans h1;have f2:=(F.cell (p:=⟨g,2,none⟩) u).trans h2;have f3:=(F.frozen (p:=⟨g,1,none⟩) u).trans (FZ.out 1);have f4:=(F.frozen (p:=⟨g,2,none⟩) u).trans (FZ.out 2);have ad:Hid (w5.heap[w.heap.size]?=some (.cells H.toArray 173 (0,0))):=by have:=O.out;rw[bT]at this;exact this
   clear O
   go_wp2_with fail
   go_end0
   exact⟨rfl,w5,F,ad.out,rfl⟩)
theorem sC (own:Nat->Nat) (i g room front:Nat) (sv:Value) (H l:List (Option Nat)) (w:World) (u:my own i w g room sv H front l) (J:Nf own w) (hf:l.length=H.length) (hr:H.length<room) :
  Kb 253 #[.pointer (some ⟨g,0,none⟩)] w fun e w'=>e=.returned (.tuple #[])/\∃own' b I,Nf own' w'/\Fr i own own' w w'/\my own' i w' g room (.slice (some ⟨b,0,none⟩) I.length I.length) I 0 l/\l.length<I.length:=by
 have hg:=ai u.blk
 rcases u.row with⟨rfl,rfl,rfl⟩|⟨b,rfl,hb,ab,aa,O⟩
 ·refine(sB g room w hg u.c0 u.c1 u.c2 u.fz u.r1).mono ?_;rintro e w'⟨rfl,W,M,G,rfl⟩;obtain rfl:l=[]:=Kx hf;obtain⟨own',a,b,c⟩:=u.widened J M G rfl u.r1 (by simp) ⟨by simp,fun i hi=>absurd hi (by simp)⟩;exact⟨rfl,own',w.heap.size,[none],a,b,c,by simp⟩
 ·have h2:=u.r2;obtain⟨N,hN⟩:∃N,N=min room (2*H.length):=⟨_,rfl⟩;have F:(H.drop front++H.take front++List.replicate (N-H.length) none).length=N:=by rw[Kf,Kf,KB,Kz,Le];omega
  refine(pQ g room H.length front N b none H w rfl hg u.c0 u.c1 u.c2 u.fz hb O h2 (by omega) (by omega) (by omega)).mono ?_;rintro e w'⟨rfl,W,M,G,rfl⟩;obtain⟨own',a,b,c⟩:=u.widened J M G F (by omega) (by omega) (u.hold.widen (Z:=List.replicate (N-H.length) none) (by omega) hf);refine⟨rfl,own',w.heap.size,_,a,b,by rw[F];exact c,by rw[F];omega⟩
theorem my.pushed {own:Nat->Nat}{w:World}{u:List (Option Nat)}{l:List (Option Nat)}(h:my own i w g room (.slice (some ⟨b,0,none⟩) u.length u.length) u front l) (M:Nf own w) (H:w.heap[b]?=some (.cells (au aX u).toArray 173 (0,0))) (G:own b=i) (F:b≠g) (I:front<u.length) (J:l.length<u.length) (x:Option Nat) :
  CC own i w ((w.setCell ⟨b,(front+l.length) % u.length,none⟩ (.pointer (pa x))).setCell ⟨g,3,none⟩ (.int .i64 ((l.length:Int)+1))) g room (l++[x]):=by
 refine⟨own,_,_,front,fun k O=>M k (by rw[bF,bF]at O;exact O),((Fr.refl i own w).set' G _ _).set' h.lab _ _,h.put ?_ ?_ F G (LY) I (h.hold.push x J)⟩
 ·have:=ab (bf h.blk (MN F) (k:=(front+l.length) % u.length) (.pointer (pa x))) 3 (.int .i64 ((l.length:Int)+1));rw[this];simp
 ·have:=bf (ab H ((front+l.length) % u.length) (.pointer (pa x))) F (k:=3) (.int .i64 ((l.length:Int)+1));rw[yt]at this;exact this
theorem Ag (own:Nat->Nat) (i g room front b:Nat) (F l:List (Option Nat)) (x:Option Nat) (w:World) (G:my own i w g room (.slice (some ⟨b,0,none⟩) F.length F.length) F front l) (J:Nf own w) (u:w.heap[b]?=some (.cells (au aX F).toArray 173 (0,0))) (M:own b=i) (I:b≠g) (ab:front<F.length) (ac:l.length<F.length) :
  Kb 194 #[.pointer (some ⟨g,0,none⟩),.pointer (pa x)] w fun e w'=>e=.returned (.int .i64 0)/\CC own i w w' g room (l++[x]):=by
 have H:Hid _:=G.pushed J u M I ab ac x;have h0:=G.c0;have h1:=G.c1;have h2:=G.c2;have h3:=G.c3;have fz:=G.fz 3;have af:=G.r2;have ag:=G.len;obtain⟨p,O⟩:∃p,(front+l.length) % F.length=p:=⟨_,rfl⟩;have ad:p<F.length:=by rw[<-O];exact LU _ (by omega)
 rw[O]at H;obtain⟨y,hy⟩:∃y,F[p]?=some y:=⟨_,Ke ad⟩;have hc:=aa u (gr hy);have ae:w.frozen? ⟨b,p,none⟩=false:=aj u;have HC:=ku fun W (a:W.cell? ⟨g,1,none⟩=some (.slice (some ⟨b,0,none⟩) F.length F.length)) (b:W.cell? ⟨g,2,none⟩=some (.int .i64 front))=>rR g F.length front l.length p _ W a b (by omega) (by omega) (by omega) O
 clear G J u M O hy
 generalize F.length=n at *
 generalize hL:l.length=c at *
 clear hL;have i1:(0:Int)<=(p:Int):=by omega
 have i2:(p:Int)<(n:Int):=by omega
 have q1:¬((c:Int)=(room:Int)):=by omega
 have q2:¬(c=room):=by omega
 have q3:¬((c:Int)=(n:Int)):=by omega
 have q4:¬(c=n):=by omega
 have q5:((c:Int)==(room:Int))=false:=by simp;omega
 have q6:((c:Int)==(n:Int))=false:=by simp;omega
 have q7:g≠b:=MN I
 go_enter func194,ntmps194
 go_wp2_with fail
 go_quiet (fail)
 go_wp2_with fail
 go_quiet (fail)
 go_wp2_with fail
 go_region_with (go_at_call 254;refine(HC.out _ (by simpa using h1) (by simpa using h2)).mono ?_;rintro e w1⟨rfl,m,rfl⟩)
 all_goals go_wp2_with fail
 all_goals go_ret
 all_goals exact⟨rfl,dq.same H.out rfl rfl rfl rfl⟩
theorem s9 (own:Nat->Nat) (i g room front:Nat) (sv:Value) (zs l:List (Option Nat)) (x:Option Nat) (w:World) (M:my own i w g room sv zs front l) (af:Nf own w) (hf:l.length=zs.length) (hr:zs.length<room) :
  Kb 194 #[.pointer (some ⟨g,0,none⟩),.pointer (pa x)] w fun e w'=>e=.returned (.int .i64 0)/\CC own i w w' g room (l++[x]):=by
 have HW:Hid (∀m,Kb 253 #[.pointer (some ⟨g,0,none⟩)] (w.drewN m) fun e w'=>e=.returned (.tuple #[])/\∃own' b H,Nf own' w'/\Fr i own own' w w'/\my own' i w' g room (.slice (some ⟨b,0,none⟩) H.length H.length) H 0 l/\l.length<H.length):=fun m=>
  (sC own i g room front sv zs l (w.drewN m) (M.same rfl) af hf hr).mono (fun e w' ⟨he,own',b,H,h1,J,h3⟩=>⟨he,own',b,H,h1,⟨J.os,J.tape,J.output,J.size,J.block,J.old⟩,h3⟩)
 have h0:=M.c0;have h1:=M.c1;have J:=M.c2;have h3:=M.c3;have an:=M.r2
 obtain⟨sp,ah⟩:∃sp,sv=.slice sp zs.length zs.length:=by
  rcases M.row with⟨rfl,rfl,_⟩|⟨b,rfl,_⟩
  ·exact⟨_,rfl⟩
  ·exact⟨_,rfl⟩
 rw[ah]at h1;rw[<-hf]at h1 hr;clear M af ah hf
 generalize hL:l.length=c at *
 have ac:=ku hL;clear hL;have q1:¬((c:Int)=(room:Int)):=by omega
 have q2:¬(c=room):=by omega
 have q5:((c:Int)==(room:Int))=false:=by simp;omega
 go_enter func194,ntmps194
 go_wp2_with fail
 go_quiet (fail)
 go_wp2_with fail
 go_quiet (fail)
 go_wp2_with fail
 refine(HW.out _).mono ?_;rintro e w2⟨rfl,own2,b,G,ab,O,F,ai⟩;clear h0 h1 J h3;have u:=F.row
 rcases u with⟨_,h,_⟩|⟨b',ad,u,ag,ae,ak⟩
 ·cases h
 ·obtain rfl:b'=b:=by cases ad;rfl
  clear ad;have I:=ku (dq.trans O (F.pushed ab u ag ae ak (by rw[ac.out];exact ai) x));have h0:=F.c0;have h1:=F.c1;have J:=F.c2;have h3:=F.c3;have fz:=F.fz 3;have ap:=F.len;rw[ac.out]at I h3;obtain⟨p,hp⟩:∃p,(0+c) % G.length=p:=⟨_,rfl⟩;have al:p<G.length:=by rw[<-hp];exact LU _ (by omega)
  rw[hp]at I;obtain⟨y,hy⟩:∃y,G[p]?=some y:=⟨_,Ke al⟩;have hc:=aa u (gr hy);have am:w2.frozen? ⟨b',p,none⟩=false:=aj u;have HC:=ku fun W (a:W.cell? ⟨g,1,none⟩=some (.slice (some ⟨b',0,none⟩) G.length G.length)) (b:W.cell? ⟨g,2,none⟩=some (.int .i64 (0:Nat)))=>rR g G.length 0 c p _ W a b (by omega) (by omega) (by omega) hp
  clear F ab O u ag hp hy HW
  generalize G.length=n at *
  have i1:(0:Int)<=(p:Int):=by omega
  have i2:(p:Int)<(n:Int):=by omega
  have q7:g≠b':=MN ae
  go_wp2_with fail
  go_region_with (go_at_call 254;refine(HC.out _ (by simpa using h1) (by simpa using J)).mono ?_;rintro e w1⟨rfl,m,rfl⟩)
  all_goals go_wp2_with fail
  all_goals go_ret
  all_goals exact⟨rfl,dq.same I.out rfl rfl rfl rfl⟩
theorem xi (own:Nat->Nat) (i g room front:Nat) (sv:Value) (H l:List (Option Nat)) (x:Option Nat) (w:World) (G:my own i w g room sv H front l) (u:Nf own w) (hr:l.length<room) :
  Kb 194 #[.pointer (some ⟨g,0,none⟩),.pointer (pa x)] w fun e w'=>e=.returned (.int .i64 0)/\CC own i w w' g room (l++[x]):=by
 have I:=G.hold.1
 by_cases J:l.length=H.length
 ·exact s9 own i g room front sv H l x w G u J (by omega)
 ·have F:=G.row
  rcases F with⟨rfl,_,_⟩|⟨b,rfl,M,O,h3,h4⟩
  ·rw[LB]at I J;omega
  ·exact Ag own i g room front b H l x w G u M O h3 h4 (by omega)
theorem my.popped {own:Nat->Nat}{w:World}{G:List (Option Nat)}{l l':List (Option Nat)}(h:my own i w g room (.slice (some ⟨b,0,none⟩) G.length G.length) G front l) (M:Nf own w) (I:w.heap[b]?=some (.cells (au aX G).toArray 173 (0,0))) (H:own b=i) (F:b≠g) (p u:Nat) (J:u < G.length) (c:Int) (hc:c=(l'.length:Int)) (hh:df (G.set p none) u l') :
  CC own i w (((w.setCell ⟨b,p,none⟩ (.pointer none)).setCell ⟨g,2,none⟩ (.int .i64 u)).setCell ⟨g,3,none⟩ (.int .i64 c)) g room l':=by
 subst hc;refine⟨own,_,_,u,fun k O=>M k (by rw[bF,bF,bF]at O;exact O),(((Fr.refl i own w).set' H _ _).set' h.lab _ _).set' h.lab _ _,h.put ?_ ?_ F H (LY) J hh⟩
 ·have:=ab (ab (bf h.blk (MN F) (k:=p) (.pointer none)) 2 (.int .i64 u)) 3 (.int .i64 (l'.length:Int));rw[this];simp
 ·have:=bf (bf (ab I p (.pointer none)) F (k:=2) (.int .i64 u)) F (k:=3) (.int .i64 (l'.length:Int));rw[nx]at this;exact this
theorem my.poppedB {own:Nat->Nat}{w:World}{F:List (Option Nat)}{l l':List (Option Nat)}(h:my own i w g room (.slice (some ⟨b,0,none⟩) F.length F.length) F front l) (J:Nf own w) (H:w.heap[b]?=some (.cells (au aX F).toArray 173 (0,0))) (G:own b=i) (u:b≠g) (p:Nat) (I:front<F.length) (c:Int) (hc:c=(l'.length:Int)) (O:df (F.set p none) front l') :
  CC own i w ((w.setCell ⟨b,p,none⟩ (.pointer none)).setCell ⟨g,3,none⟩ (.int .i64 c)) g room l':=by
 subst hc;refine⟨own,_,_,front,fun k M=>J k (by rw[bF,bF]at M;exact M),((Fr.refl i own w).set' G _ _).set' h.lab _ _,h.put ?_ ?_ u G (LY) I O⟩
 ·have:=ab (bf h.blk (MN u) (k:=p) (.pointer none)) 3 (.int .i64 (l'.length:Int));rw[this];simp
 ·have:=bf (ab H p (.pointer none)) u (k:=3) (.int .i64 (l'.length:Int));rw[nx]at this;exact this
theorem xm (own:Nat->Nat) (i g room front:Nat) (sv:Value) (G l:List (Option Nat)) (x:Option Nat) (w:World) (u:my own i w g room sv G front l) (J:Nf own w) (hx:l[0]?=some x) :
  Kb 207 #[.pointer (some ⟨g,0,none⟩)] w fun e w'=>e=.returned (.tuple #[.pointer (pa x),.int .i64 0])/\CC own i w w' g room l.tail:=by
 have H:0<l.length:=(Kq.1 hx).1;obtain⟨b,rfl,F,M,I,ag⟩:=u.nonempty H;have ah:=u.hold.1;have ai:=u.r2;have ak:=u.len;have h1:=u.c1;have h2:=u.c2;have h3:=u.c3;have ae:=u.fz 2;have af:=u.fz 3;obtain⟨p,hp⟩:∃p,(front+0) % G.length=p:=⟨_,rfl⟩;obtain⟨q,hq⟩:∃q,(front+1) % G.length=q:=⟨_,rfl⟩;have ac:p<G.length:=by rw[<-hp];exact LU _ (by omega)
 have ad:q<G.length:=by rw[<-hq];exact LU _ (by omega)
 have hy:G[p]?=some x:=by rw[<-hp,<-u.hold.2 0 H];exact hx
 have O:Hid _:=u.popped J F M I p q ad ((l.length:Int)-1) (l':=l.tail) (by rw[O3];omega) (by have:=u.hold.popFront none H;rw[hp,hq]at this;exact this);have hc:=aa F (gr hy);have ab:w.frozen? ⟨b,p,none⟩=false:=aj F;have HS:=ku (FI g l.length w h3 H);have HE:=ku (BJ g G.length front 0 p b x w h1 h2 ac (by omega) (by omega) hp hc ab);have HC:=ku fun W (a:W.cell? ⟨g,1,none⟩=some (.slice (some ⟨b,0,none⟩) G.length G.length)) (b:W.cell? ⟨g,2,none⟩=some (.int .i64 front))=>rR g G.length front 1 q _ W a b (by omega) (by omega) (by omega) hq
 clear J F M hp hq hy hx;have q7:g≠b:=MN I
 have D1:Hid (∀m,((w.drewN m).setCell ⟨b,p,none⟩ (.pointer none)).cell? ⟨g,1,none⟩=some (.slice (some ⟨b,0,none⟩) G.length G.length)/\((w.drewN m).setCell ⟨b,p,none⟩ (.pointer none)).cell? ⟨g,2,none⟩=some (.int .i64 front)):=fun m=>by
  have:=bf (W:=w.drewN m) (k:=p) u.blk q7 (.pointer none);exact⟨aa this rfl,aa this rfl⟩
 clear u
 generalize G.length=n at *
 generalize hL:l.length=c at *
 clear hL
 go_enter func207,ntmps207
 go_wp2_with fail
 refine HS.out.mono ?_;rintro e w1⟨rfl,rfl⟩
 go_wp2_with fail
 refine HE.out.mono ?_;rintro e w2⟨rfl,m,rfl⟩
 go_wp2_with fail
 refine(HC.out _ (D1.out m).1 (D1.out m).2).mono ?_;rintro e w3⟨rfl,m2,rfl⟩
 go_wp2_with fail
 go_ret2
 exact⟨rfl,dq.same O.out rfl rfl rfl rfl⟩
theorem xo (own:Nat->Nat) (i g room front:Nat) (sv:Value) (H l:List (Option Nat)) (x:Option Nat) (w:World) (F:my own i w g room sv H front l) (J:Nf own w) (G:0<l.length) (hx:l[l.length-1]?=some x) :
  Kb 273 #[.pointer (some ⟨g,0,none⟩)] w fun e w'=>e=.returned (.tuple #[.pointer (pa x),.int .i64 0])/\CC own i w w' g room l.dropLast:=by
 obtain⟨b,rfl,u,M,I,ac⟩:=F.nonempty G;have af:=F.hold.1;have ag:=F.r2;have ah:=F.len;have h1:=F.c1;have h2:=F.c2;have h3:=F.c3;have ae:=F.fz 3;obtain⟨p,hp⟩:∃p,(front+(l.length-1)) % H.length=p:=⟨_,rfl⟩;have ad:p<H.length:=by rw[<-hp];exact LU _ (by omega)
 have hy:H[p]?=some x:=by rw[<-hp,<-F.hold.2 (l.length-1) (by omega)];exact hx
 have O:Hid _:=F.poppedB J u M I p ac ((l.length:Int)-1) (l':=l.dropLast) (by rw[NY];omega) (by have:=F.hold.popBack none G;rw[hp]at this;exact this);have hc:=aa u (gr hy);have ab:w.frozen? ⟨b,p,none⟩=false:=aj u;have HS:=ku (FI g l.length w h3 G)
 have HE:Hid (Kb 266 #[.pointer (some ⟨g,0,none⟩),.int .i64 ((l.length:Int)-1)] w fun e w'=>e=.returned (.pointer (pa x))/\∃m,w'=(w.drewN m).setCell ⟨b,p,none⟩ (.pointer none)):=by
  have:=BJ g H.length front (l.length-1) p b x w h1 h2 ad (by omega) (by omega) hp hc ab;rw[show((l.length-1:Nat):Int)=(l.length:Int)-1 by omega]at this;exact this
 clear J u M hp hy hx;have q7:g≠b:=MN I;clear F
 generalize H.length=n at *
 generalize hL:l.length=c at *
 clear hL
 go_enter func273,ntmps273
 go_wp2_with fail
 refine HS.out.mono ?_;rintro e w1⟨rfl,rfl⟩
 go_wp2_with fail
 refine HE.out.mono ?_;rintro e w2⟨rfl,m,rfl⟩
 go_wp2_with fail
 go_ret2
 exact⟨rfl,dq.same O.out rfl rfl rfl rfl⟩
theorem pO (g c:Nat) (k:Int) (w:World) (h:w.cell? ⟨g,3,none⟩=some (.int .i64 c)) (u:k<0\/(c:Int)<=k):Kb 286 #[.pointer (some ⟨g,0,none⟩),.int .i64 k] w fun e w'=>e=.returned (.int .i64 1)/\w'=w:=by
 rcases u with u|u
 ·exact pN g k w u
 ·exact pM g c k w h u
theorem Fs (g c:Nat) (k:Int) (w:World) (h:w.cell? ⟨g,3,none⟩=some (.int .i64 c)) (u:k<0\/(c:Int)<=k):Kb 249 #[.pointer (some ⟨g,0,none⟩),.int .i64 k] w fun e w'=>e=.returned (.tuple #[.pointer none,.int .i64 1])/\w'=w:=by
 have H:=ku (pO g c k w h u);clear h u
 go_enter func249,ntmps249
 go_wp2_with fail
 refine(Hid.out H).mono ?_;rintro e F⟨rfl,rfl⟩
 go_wp2_with fail
 go_ret2
 exact⟨rfl,rfl⟩
theorem Fu (own:Nat->Nat) (i g room front k:Nat) (sv:Value) (F l:List (Option Nat)) (x:Option Nat) (w:World) (u:my own i w g room sv F front l) (I:l[k]?=some x) :
  Kb 249 #[.pointer (some ⟨g,0,none⟩),.int .i64 k] w fun e w'=>e=.returned (.tuple #[.pointer (pa x),.int .i64 0])/\∃m,w'=w.drewN m:=by
 have H:k<l.length:=(Kq.1 I).1;obtain⟨b,rfl,G,J,ab,ac⟩:=u.nonempty (by omega);have ad:=u.hold.1;have af:=u.r2;have ag:=u.len;have h1:=u.c1;have h2:=u.c2;have h3:=u.c3;obtain⟨p,hp⟩:∃p,(front+k) % F.length=p:=⟨_,rfl⟩;have ae:p<F.length:=by rw[<-hp];exact LU _ (by omega)
 have M:F[p]?=some x:=by rw[<-hp,<-u.hold.2 k H];exact I
 have hc:=aa G (gr M);have O:=ku (C4 g l.length k w h3 H);have HC:=ku fun W (a:W.cell? ⟨g,1,none⟩=some (.slice (some ⟨b,0,none⟩) F.length F.length)) (b:W.cell? ⟨g,2,none⟩=some (.int .i64 front))=>rR g F.length front k p _ W a b (by omega) (by omega) (by omega) hp
 clear u G J hp M I H
 generalize F.length=n at *
 have i1:(0:Int)<=(p:Int):=by omega
 have i2:(p:Int)<(n:Int):=by omega
 go_enter func249,ntmps249
 go_wp2_with fail
 refine O.out.mono ?_;rintro e w1⟨rfl,rfl⟩
 go_wp2_with fail
 go_quiet ((go_at_call 254;exact Calls.quiet_of (HC.out _ (by simpa using h1) (by simpa using h2))))
 go_wp2_with fail
 go_ret2
 exact⟨rfl,⟨_,rfl⟩⟩
theorem aK {p:Prop}(h:p):Hid p:=h
structure bV (P:Nat->Prop) (own own':Nat->Nat) (w w':World):Prop where
 os:w'.os=w.os
 tape:w'.tape=w.tape
 output:w'.output=w.output
 size:w.heap.size<=w'.heap.size
 block:∀k,k<w.heap.size->¬P (own k)->w'.heap[k]?=w.heap[k]?
 old:∀k,k<w.heap.size->¬P (own k)->own' k=own k
section
variable {P:Nat->Prop} {own own' own2:Nat->Nat} {w w' w2:World}
theorem bV.refl (P:Nat->Prop) (own:Nat->Nat) (w:World):bV P own own w w:=⟨rfl,rfl,rfl,ge _,fun _ _ _=>rfl,fun _ _ _=>rfl⟩
theorem bV.trans (h:bV P own own' w w') (k:bV P own' own2 w' w2):bV P own own2 w w2:=
 ⟨k.os.trans h.os,k.tape.trans h.tape,k.output.trans h.output,Kh h.size k.size,
 fun j F u=>(k.block j (Kl F h.size) (by rw[h.old j F u];exact u)).trans (h.block j F u),
 fun j F u=>(k.old j (Kl F h.size) (by rw[h.old j F u];exact u)).trans (h.old j F u)⟩
theorem _root_.Go.Proofs.YtcmbkeghnmgbfaaGreatDoor.Fr.toP {i:Nat}(h:Fr i own own' w w') (G:P i):bV P own own' w w':=
 ⟨h.os,h.tape,h.output,h.size,fun k u F=>h.block k u (fun e=>F (by rw[e];exact G)),fun k u _=>h.old k u⟩
theorem bV.of_below (h:Below w.heap.size w w'):bV P own own w w':=⟨h.os,h.tape,h.output,h.size,fun k u _=>h.block k u,fun _ _ _=>rfl⟩
theorem RG.keptP {β:Type}{T e:TypeId}{enc:β->List Value}{i g room:Nat}{sv:Value}{J:List β}{front:Nat}{l:List β}(h:RG T e enc own i w g room sv J front l) (u:bV P own own' w w') (F:¬P i):RG T e enc own' i w' g room sv J front l:=by
 refine⟨(u.block g (ai h.blk) (by rw[h.lab];exact F)).trans h.blk,(u.old g (ai h.blk) (by rw[h.lab];exact F)).trans h.lab,h.r1,h.r2,h.len,?_,h.hold⟩
 rcases h.row with G|⟨b,G,H,I,M,O⟩
 ·exact .inl G
 ·exact .inr ⟨b,G,(u.block b (ai H) (by rw[I];exact F)).trans H,(u.old b (ai H) (by rw[I];exact F)).trans I,M,O⟩
theorem qn {i e sz n:Nat}{v:Value}{xs:List Value}(J:bV P own own' w w') (M:¬P i) (h:w.ownsRow 0 e sz v n xs/\∀k,v.ownBlock=some k->own k=i):w'.ownsRow 0 e sz v n xs/\∀k,v.ownBlock=some k->own' k=i:=by
 obtain⟨u,F⟩:=h;refine⟨⟨u.1,?_⟩,fun k G=>?_⟩
 ·rcases u.2 with O|⟨g,cap,H,rfl,h4,I,h6⟩
  ·exact .inl O
  ·exact .inr ⟨g,cap,H,rfl,h4,(J.block g (ai I) (by rw[F g rfl];exact M)).trans I,h6⟩
 ·rw[J.old k (u.lt k G).2 (by rw[F k G];exact M)];exact F k G
theorem SK.keptP {i g:Nat}{s:cK}(h:SK own i w g s) (u:bV P own own' w w') (F:¬P i):SK own' i w' g s:=by
 obtain⟨tv,gv,text,gs,G,H,I,J⟩:=h.ex;exact⟨(u.old g (ai G) (by rw[h.lab];exact F)).trans h.lab,tv,gv,text,gs,(u.block g (ai G) (by rw[h.lab];exact F)).trans G,qn u F H,qn u F I,J⟩
end
theorem eF (w:World) (m:Nat):Below w.heap.size w (w.drewN m):=by
 rw[World.drewN];exact⟨rfl,rfl,rfl,ge _,fun _ _=>rfl⟩
def Lr (j l:Nat):Prop:=l=3+j\/(10<=l/\l % 2=j)
def fl (cs:List (Nat × List Nat)):List Nat:=cs.flatMap (·.2)
theorem By (a b:List (Nat × List Nat)):fl (a++b)=fl a++fl b:=List.flatMap_append
theorem gP (x:Nat × List Nat) (b:List (Nat × List Nat)):fl (x :: b)=x.2++fl b:=rfl
structure fe (own:Nat->Nat) (j:Nat) (W:World) (q:Nat) (cs:List (Nat × List Nat)):Prop where
 j2:j<2
 out:∃sv zs front,my own (3+j) W q 2097152 sv zs front (cs.map fun x=>some x.1)
 part:∀x∈cs,(∃sv zs front,jY own (10+2*x.1+j) W x.1 1024 sv zs front (x.2.map some))/\x.2≠[]
 mid:∀x∈cs.tail.dropLast,x.2.length=1024
 nd:(cs.map (·.1)).Nodup
section
variable {own own':Nat->Nat} {j:Nat} {W W':World} {q:Nat} {cs:List (Nat × List Nat)}
theorem fe.kept {P:Nat->Prop}(h:fe own j W q cs) (F:bV P own own' W W') (G:∀i,Lr j i->¬P i):fe own' j W' q cs:=by
 obtain⟨sv,u,front,H⟩:=h.out;refine⟨h.j2,⟨sv,u,front,H.keptP F (G _ (.inl rfl))⟩,fun x I=>?_,h.mid,h.nd⟩;obtain⟨⟨sv,u,front,h2⟩,h3⟩:=h.part x I;have:=h.j2;exact⟨⟨sv,u,front,h2.keptP F (G _ (.inr ⟨by omega,by omega⟩))⟩,h3⟩
theorem fe.below (h:fe own j W q cs) (u:Below W.heap.size W W'):fe own j W' q cs:=h.kept (P:=fun _=>False) (bV.of_below u) (fun _ _ h=>h)
theorem fe.len (h:fe own j W q cs):cs.length<=2097152:=by
 obtain⟨sv,F,front,u⟩:=h.out;have:=u.hold.1;have:=u.len;rw[Lj]at *;omega
theorem fe.plen (h:fe own j W q cs) {x:Nat × List Nat}(F:x∈cs):x.2.length<=1024:=by
 obtain⟨⟨sv,G,front,u⟩,_⟩:=h.part x F;have:=u.hold.1;have:=u.len;rw[Lj]at *;omega
theorem JQ (cs:List (Nat × List Nat)) (G:∀x∈cs.tail.dropLast,x.2.length=1024):cs.length*1024<=(fl cs).length+2048:=by
 have F:∀l:List (Nat × List Nat),(∀x∈l,x.2.length=1024)->(fl l).length=l.length*1024:=by
  intro l
  induction l with
  |nil=>intro _;rfl
  |cons x r ih=>
   intro h;rw[gP,Kf,ih (fun y J=>h y (KA _ J)),h x Ko,List.length_cons];omega
 cases cs with
 |nil=>simp
 |cons x r=>
  rw[Mp]at G;have H:=F _ G
  by_cases u:r=[]
  ·subst u;simp
  ·have I:r=r.dropLast++[r.getLast u]:=(List.dropLast_concat_getLast u).symm
   have M:(fl r).length=(fl r.dropLast).length+(r.getLast u).2.length:=by
    conv=>lhs;rw[I]
    rw[By,Kf];simp[fl]
   rw[gP,Kf,List.length_cons];rw[NY]at H;have:0<r.length:=Ob.2 u;omega
theorem fe.turn {u v:List (Nat × List Nat)}{r:Nat}{c c':List Nat}(h:fe own j W q (u++(r,c) :: v)) (ha:wu own (10+2*r+j) W W' r 1024 (c'.map some)) (hc:c'≠[]) (hm:∀x∈(u++(r,c') :: v).tail.dropLast,x.2.length=1024) :
  ∃own',Nf own' W'/\bV (Lr j) own own' W W'/\fe own' j W' q (u++(r,c') :: v):=by
 obtain⟨own',sv,H,front,h1,h2,h3⟩:=ha;have hj:=h.j2;have O:bV (fun i=>i=10+2*r+j) own own' W W':=h2.toP rfl;refine⟨own',h1,h2.toP (.inr ⟨by omega,by omega⟩),hj,?_,fun x G=>?_,hm,?_⟩
 ·obtain⟨sv,H,front,J⟩:=h.out;refine⟨sv,H,front,?_⟩;have:=J.keptP O (by omega)
  simpa using this
 ·have F:=h.nd;rw[Lf,Np]at F
  have M:∀y∈u++v,y.1≠r:=by
   intro y I e;rw[L9]at F
   rcases Lg.1 I with I|I
   ·exact F.2.2 y.1 (List.mem_map_of_mem I) r Ko e
   ·have:=(Mu.1 F.2.1).1;exact this (Mi.2 ⟨y,I,e⟩)
  rcases Lg.1 G with G|G
  ·obtain⟨⟨sv,H,front,J⟩,k2⟩:=h.part x (MY _ G);have:=M x (MY _ G);exact⟨⟨sv,H,front,J.keptP O (by omega)⟩,k2⟩
  ·rcases KL.1 G with rfl|G
   ·exact⟨⟨sv,H,front,h3⟩,hc⟩
   ·obtain⟨⟨sv,H,front,J⟩,k2⟩:=h.part x (MO _ (KA _ G));have:=M x (MO _ G);exact⟨⟨sv,H,front,J.keptP O (by omega)⟩,k2⟩
 ·have F:=h.nd
  simpa using F
end
section
variable {own:Nat->Nat} {j:Nat} {W:World} {q:Nat} {cs:List (Nat × List Nat)}
theorem fe.c3 (h:fe own j W q cs):W.cell? ⟨q,3,none⟩=some (.int .i64 (cs.length:Nat)):=by
 obtain⟨sv,F,front,u⟩:=h.out;have:=u.c3;rw[Lj]at this;exact this
theorem fe.atq (h:fe own j W q cs) (k:Int) (M:-1<=k):Kb 249 #[.pointer (some ⟨q,0,none⟩),.int .i64 k] W fun e w'=>(∃y,e=.returned (.tuple #[.pointer (pa (if k<0 then none else(cs[k.toNat]?).map (·.1))),.int .i64 y]))/\Kc W w':=by
 obtain⟨sv,J,front,G⟩:=h.out;have c3:=h.c3
 by_cases H:k<0\/(cs.length:Int)<=k
 ·refine(Fs q cs.length k W c3 H).mono ?_;rintro e w'⟨rfl,rfl⟩;refine⟨⟨1,?_⟩,gt _ _⟩
  by_cases u:k<0
  ·rw[Kd u];rfl
  ·rw[IO u,MF (by omega)];rfl
 ·obtain⟨n,rfl⟩:∃n:Nat,k=n:=⟨k.toNat,by omega⟩;have F:n<cs.length:=by omega
  have I:(cs.map fun x=>some x.1)[n]?=some (some cs[n].1):=by
   rw[Lb,Ke F];rfl
  refine(Fu own (3+j) q 2097152 front n sv J _ _ W G I).mono ?_;rintro e w'⟨rfl,m,rfl⟩;refine⟨⟨0,?_⟩,eF _ _⟩;rw[IO (by omega),Lp,Ke F];rfl
end
section
variable {own:Nat->Nat} {j:Nat} {W:World} {g o q:Nat} {cs:List (Nat × List Nat)}
theorem nv (h:fe own j W q cs) (G:W.cell? ⟨g,o,none⟩=some (.pointer (some ⟨q,0,none⟩))) :
  Kb 195 #[.pointer (some ⟨g,o,none⟩)] W fun e w'=>e=.returned (.pointer (pa (cs.head?.map (·.1))))/\Kc W w':=by
 have u:Hid (Kb 249 #[.pointer (some ⟨q,0,none⟩),.int .i64 0] W fun e w'=>(∃y,e=.returned (.tuple #[.pointer (pa (cs.head?.map (·.1))),.int .i64 y]))/\Kc W w'):=by
  have:=h.atq 0 (by omega);rw[IO (by omega)]at this;rw[List.head?_eq_getElem?];exact this
 clear h
 generalize pa (cs.head?.map (·.1))=z at *
 go_enter func195,ntmps195
 go_wp2_with(go_at_call 249;refine u.out.mono ?_;rintro e H⟨⟨y,rfl⟩,F⟩)
 go_ret
 exact⟨rfl,F⟩
theorem iY (h:fe own j W q cs) (I:W.cell? ⟨g,o,none⟩=some (.pointer (some ⟨q,0,none⟩))) :
  Kb 191 #[.pointer (some ⟨g,o,none⟩)] W fun e w'=>e=.returned (.pointer (pa (cs.getLast?.map (·.1))))/\Below W.heap.size W w':=by
 have O:=h.len;have G:=Kg _ _ I
 have J:Hid (∀V,Kc W V->Kb 249 #[.pointer (some ⟨q,0,none⟩),.int .i64 ((cs.length:Nat)-1:Int)] V fun e w'=>(∃y,e=.returned (.tuple #[.pointer (pa (cs.getLast?.map (·.1))),.int .i64 y]))/\Kc V w'):=fun V u=>by
  have:=(h.below u).atq ((cs.length:Nat)-1:Int) (by omega)
  have e:(if((cs.length:Nat)-1:Int)<0 then none else(cs[((cs.length:Nat)-1:Int).toNat]?).map (·.1))=cs.getLast?.map (·.1):=by
   rw[List.getLast?_eq_getElem?]
   by_cases h0:cs.length=0
   ·rw[Kd (by omega),MF (by omega)];rfl
   ·rw[IO (by omega)];congr 2;omega
  rw[e]at this;exact this
 have M:=ku fun V (u:Kc W V)=>JR q cs.length V ((h.below u).c3)
 have H:Hid (∀V,Kc W V->V.cell? ⟨g,o,none⟩=some (.pointer (some ⟨q,0,none⟩))/\Kc W V):=fun V u=>⟨(u.cell (p:=⟨g,o,none⟩) G).trans I,u⟩
 clear h
 generalize cs.length=n at *
 generalize pa (cs.getLast?.map (·.1))=x at *
 have aa:IntKind.i64.wrap ((n:Int)-1)=(n:Int)-1:=by rw[Ki];omega
 go_enter func191,ntmps191
 go_wp2_with fail
 go_region_held3 (fun w'=>w'.cell? ⟨g,o,none⟩=some (.pointer (some ⟨q,0,none⟩))/\Below W.heap.size W w') (first|(exact H.out _ (by assumption))|(exact H.out _ (gt _ _).drew)|go_keep) (first|(go_at_call 250;refine(M.out _ (by first|assumption|exact(gt _ _).drew)).mono ?_;rintro e w1⟨rfl,rfl⟩)|(go_at_call 249;refine(J.out _ (by first|assumption|exact(gt _ _).drew)).mono ?_;rintro e w2⟨⟨y,rfl⟩,hb2⟩;have F:=(by first|exact(gt W.heap.size W).drew.trans (hb2.mono (ge _))|assumption:Below W.heap.size W w2)))
 all_goals(
  go_wp2_with fail
  go_ret
  exact⟨rfl,F⟩)
end
