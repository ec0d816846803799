import Derived.Test.YtcmbkeghnmgbfaaGreatDoorM39
set_option linter.all false
set_option maxHeartbeats 4000000
set_option maxRecDepth 100000
namespace Go.Proofs.YtcmbkeghnmgbfaaGreatDoor
open Go.Proofs.Tryz
open Go.RowKit
open Lw (Dc rt ud S9 CE)
open Lx (je fJ av)
variable {n:Nat}{l:List Ev}{e:Ev}
def Ih (w:World) (ao:Option Addr) (l:List Ev):Prop:=∀j e,l[j]?=some e->∃b off,ao=some ⟨b,off,none⟩ /\
 w.cell? ⟨b,off+j*8,none⟩=some (.int .u8 e.k)/\w.cell? ⟨b,off+j*8+1,none⟩=some (.int .u8 e.n)/\w.cell? ⟨b,off+j*8+2,none⟩=some (.int .u8 e.d.k)/\w.cell? ⟨b,off+j*8+3,none⟩=some (.string e.d.t)/\w.cell? ⟨b,off+j*8+4,none⟩=some (.int .i64 e.d.a)/\w.cell? ⟨b,off+j*8+5,none⟩=some (.int .i64 e.d.l)/\w.cell? ⟨b,off+j*8+6,none⟩=some (.int .i64 e.d.c)/\w.cell? ⟨b,off+j*8+7,none⟩=some (.int .i64 e.d.f)
theorem GJ {w:World}{p:Option Addr}{cap:Nat}(h:Re w (.slice p n cap) l):Ih w p l:=by
 intro j d F
 rcases h.2 with⟨G,I⟩|⟨g,H,M,G,_⟩
 ·have:l=[]:=Kx I;subst this;simp at F
 ·cases G
  have hc:∀(k:Nat) (u:Value),(BO l)[k]?=some u->w.cell? ⟨g,k,none⟩=some u:=fun k u J=>by
   have:=Oc h (g:=g) rfl k u J;rw[KV,Km]at this;exact this
  refine⟨g,0,rfl,?_,?_,?_,?_,?_,?_,?_,?_⟩
  ·rw[Km];exact hc _ _ (aO Ev.cs 8 Ev.cs_len l j 0 d _ F rfl)
  ·rw[Km];exact hc _ _ (aO Ev.cs 8 Ev.cs_len l j 1 d _ F rfl)
  ·rw[Km];exact hc _ _ (aO Ev.cs 8 Ev.cs_len l j 2 d _ F rfl)
  ·rw[Km];exact hc _ _ (aO Ev.cs 8 Ev.cs_len l j 3 d _ F rfl)
  ·rw[Km];exact hc _ _ (aO Ev.cs 8 Ev.cs_len l j 4 d _ F rfl)
  ·rw[Km];exact hc _ _ (aO Ev.cs 8 Ev.cs_len l j 5 d _ F rfl)
  ·rw[Km];exact hc _ _ (aO Ev.cs 8 Ev.cs_len l j 6 d _ F rfl)
  ·rw[Km];exact hc _ _ (aO Ev.cs 8 Ev.cs_len l j 7 d _ F rfl)
theorem Ih.kp {S:Nat->Prop}{w w':World}{ao:Option Addr}{l:List Ev}(h:Ih w ao l) (M:Kp S w w') (I:∀b u,ao=some ⟨b,u,none⟩->¬S b):Ih w' ao l:=by
 intro j a J;obtain⟨b,u,G,c0,c1,c2,c3,c4,c5,c6,H⟩:=h j a J;have F:=Kg _ _ c0;have e:w'.heap[b]?=w.heap[b]?:=M.block b F (I b u G);exact⟨b,u,G,(Kn (a:=⟨b,_,none⟩) e).trans c0,(Kn (a:=⟨b,_,none⟩) e).trans c1,(Kn (a:=⟨b,_,none⟩) e).trans c2,(Kn (a:=⟨b,_,none⟩) e).trans c3,(Kn (a:=⟨b,_,none⟩) e).trans c4,(Kn (a:=⟨b,_,none⟩) e).trans c5,(Kn (a:=⟨b,_,none⟩) e).trans c6,(Kn (a:=⟨b,_,none⟩) e).trans H⟩
section
variable {R:(Nat->Prop)->World->Nat->Nat->S9->Prop} {q:Gq} {c:Nat->Nat} {W W':World} {L:j0} {op:ByteArray} {X Y:DS}
theorem IE {s:ByteArray}(h:Gm s X=some Y):Y.C=X.C:=by
 unfold Gm at h;simp only at h
 split at h
 ·cases h;rfl
 ·cases h
theorem F7 {d:Dc}(h:ww d X=some Y):d.t.size<=1000/\X.C+1<=1000000/\Y.C=X.C+1:=by
 unfold ww at h;simp only at h
 split at h
 ·rename_i hc;exact⟨hc.2.1,hc.2.2.2,IE h⟩
 ·cases h
theorem jf:∀(l:List Dc) (X Y:DS),fW l X=some Y->(l.length=0\/X.C+l.length<=1000000)/\∀d∈l,d.t.size<=1000
 |[],X,Y,h=>⟨.inl rfl,fun d hd=>by cases hd⟩
 |d :: l,X,Y,h=>by
  obtain⟨Z,u,F⟩:=kD h;obtain⟨a1,a2,a3⟩:=F7 u;obtain⟨b1,b2⟩:=jf l Z Y F;refine⟨.inr ?_,fun x G=>?_⟩
  ·rw[List.length_cons];omega
  ·rcases KL.1 G with e|e
   ·rw[e];exact a1
   ·exact b2 x e
theorem zV {s:pE}(h:Jw s=true):J1 s:=by
 cases s with
 |done=>trivial
 |live s=>
  simp only[Jw,Lo,KJ,List.all_eq_true]at h;obtain⟨⟨⟨I,J⟩,F⟩,u⟩:=h;refine⟨⟨by omega,by omega,fun x H=>by have:=F x H;omega⟩,fun m G=>?_⟩;rw[G]at u
  simpa using u
def Js (R:(Nat->Prop)->World->Nat->Nat->S9->Prop) (q:Gq) (c:Nat->Nat) (W:World) (L:j0) (op:ByteArray) (X:DS) (V:World) (p:Option Addr) (l:List Dc):Prop:=
 ∃c2,DI R q c2 V L op X/\Sp c W c2 V/\Lw.Lay V p l/\∀a,p=some a->c2 a.block=0
theorem pZ (I:fh R) (h:DI R q c W L op X) {v:Value}{l:List Dc}{st:pE}(J:Aq (fun k=>c k=3) q.gs W W' v l st) (ht:∀d∈l,d.t.size<=1000):∃p cap,v=.slice p l.length cap/\Js R q c W L op { X with ss:=st } W' p l:=by
 obtain⟨c',u,F,G,H⟩:=h.sty I J;obtain⟨ao,cap,e1,e2,e3,_⟩:=Lw.Lay.row G (fun d hd=>by have:=ht d hd;omega);subst e1;exact⟨ao,cap,rfl,c',u,F,by first|exact e3|exact e2,fun a e=>H a.block (by rw[e];rfl)⟩
theorem sq (h:fk (e :: l) X=some Y):∃Z,wy e X=some Z/\fk l Z=some Y:=by
 simp only[fk]at h;cases u:wy e X with
 |none=>rw[u]at h;cases h
 |some Z=>rw[u]at h;exact⟨Z,rfl,h⟩
theorem Hf (h:wy e X=some Y):e.d.t.size<=1000:=by
 unfold wy at h;simp only at h
 split at h
 ·rename_i hc;exact hc.2.1
 ·cases h
theorem vI (hC:fh R) (h:DI R q c W L op X) {p:Option Addr}{l:List Ev}{cap:Nat}(hl:Ih W p l) (hp:∀a,p=some a->c a.block=0) (ac:l.length<=1000000000) (hy:fk l X=some Y) :
  Kb 31 #[.pointer (some ⟨q.d,0,none⟩),.slice p l.length cap,.int .i64 0] W fun e w'=>e=.returned (.int .i64 0)/\∃c',DI R q c' w' L op Y/\Sp c W c' w':=by
 have HL:=ku fun c' V (hs:Sp c W c' V)=>hl.kp hs.kp (fun b ab e e2=>e2 (hp _ e))
 have HI:Hid (∃c' Z,DI R q c' W L op Z/\Sp c W c' W/\fk (l.drop 0) Z=some Y):=⟨c,X,h,Sp.below (gt _ _),hy⟩;clear h hl hp hy
 go_enter func31,ntmps31
 go_wp2_with fail
 go_loopw [8,9,12] (fun _ _ i wr=>∃j:Nat,j<=l.length/\i=.int .i64 j/\Hid (∃c' Z,DI R q c' wr L op Z/\Sp c W c' wr/\fk (l.drop j) Z=some Y)) (fun _ _ i _=>l.length-(intOf i).toNat)
 case atStart=>exact⟨0,Kj _,rfl,HI.out⟩
 case round=>
  obtain⟨j,hj,rfl,HJ⟩:=hrel;obtain⟨c1,Z,h1,s1,z1⟩:=HJ.out
  by_cases H:j<l.length
  ·have q1:(j:Int)<l.length:=by omega
   have q2:(0:Int)<=j:=by omega
   obtain⟨d,hd⟩:∃d,l[j]?=some d:=⟨_,Ke H⟩
   have kv:l.drop j=d :: l.drop (j+1):=by
    rw[KO H];rw[Ke H]at hd;rw[KH hd]
   rw[kv]at z1;obtain⟨Z2,G,z3⟩:=sq z1;have aa:=Hf G;obtain⟨b,ab,rfl,k0,k1,k2,k3,k4,k5,k6,k7⟩:=HL.out c1 wr s1 j d hd;unfold wy at G;simp only at G
   split at G
   ·rename_i I
    obtain⟨y1,y2,y3⟩:=I;obtain⟨J,hZL⟩:∃J,(oo d Z.ss).2.1=J:=⟨_,rfl⟩;rw[hZL]at G;obtain⟨hzl,hzt⟩:=jf _ _ _ G
    have HP:Hid (∀V,Kc wr V->Kb 56 #[bv q.gs,.agg #[.int .u8 d.k,.int .u8 d.n,.int .u8 d.d.k,.string d.d.t,.int .i64 d.d.a,.int .i64 d.d.l,.int .i64 d.d.c,.int .i64 d.d.f]] V fun e w'=>∃F u,e=.returned (.tuple #[.slice F J.length u,.int .i64 0])/\Hid (Js R q c W L op { Z with ss:=(oo d Z.ss).2.2 } w' F J)):=fun V hb=>by
     have h2:=h1.below hC hb;refine(zG h2.ss (zV y1) d (by omega)).mono ?_;rintro e w'⟨v,rfl,hA⟩;rw[hZL]at hA;obtain⟨F,u,rfl,c3,M,O,a3,a4⟩:=pZ hC h2 hA hzt;rw[y3];exact⟨F,u,rfl,c3,M,s1.trans ((Sp.below hb).trans O),a3,a4⟩
    have HQ:Hid (∀V F u,Hid (Js R q c W L op { Z with ss:=(oo d Z.ss).2.2 } V F J)->Kb 40 #[.pointer (some ⟨q.d,0,none⟩),.slice F J.length u,.int .i64 0] V fun e w'=>e=.returned (.int .i64 0)/\Hid (∃c2,DI R q c2 w' L op Z2/\Sp c W c2 w')):=fun V F u hV=>by
     obtain⟨c2,M,O,a3,a4⟩:=hV.out;refine(vg hC M a3 a4 (by omega) G).mono ?_;rintro e w'⟨rfl,c3,b1,b2⟩;exact⟨rfl,c3,b1,O.trans b2⟩
    have m8:=h1.cs.2.2.2.2;have cz:=h1.dl;have HZ:=ku z3;have Q8:=ku ((by unfold wrap64;omega:wrap64 ((j:Int)+1)=(j:Int)+1));clear HJ h1 s1 z1 G z3 kv hd y1 y2 y3 hZL hzl hzt aa HI;obtain⟨dk,dn,⟨tk,tt,ta,tl,tc,tf⟩⟩:=d;simp only at k0 k1 k2 k3 k4 k5 k6 k7 HP HQ
    go_wp2_with fail
    go_region_with (first|(go_at_call 56;refine(HP.out _ (by first|exact(gt _ _).alloc (ge _) _|exact((gt _ _).alloc (ge _) _).drew)).mono ?_;rintro e w5⟨F,u,rfl,K5⟩)|(go_at_call 40;refine(HQ.out _ _ _ K5).mono ?_;rintro e w6⟨rfl,K6⟩))
    all_goals(
     go_wp2_with fail
     obtain⟨c6,M,O⟩:=K6.out;exact⟨⟨j+1,H,rfl,c6,Z2,M,O,HZ.out⟩,by simp[intOf];omega⟩)
   ·cases G
  ·obtain rfl:j=l.length:=by omega
   have q1:¬((l.length:Int)<l.length):=by omega
   rw[LT]at z1;have z9:=KH z1;subst z9;have H9:Hid (∃c',DI R q c' wr L op Z/\Sp c W c' wr):=⟨c1,h1,s1⟩;clear HJ h1 s1
   go_wp2_with fail
   go_ret
   exact⟨rfl,H9.out⟩
end
section
variable {R:(Nat->Prop)->World->Nat->Nat->S9->Prop} {q:Gq} {c:Nat->Nat} {W W':World} {L:j0} {op:ByteArray} {X Y:DS}
theorem DI.free (J:fh R) (h:DI R q c W L op X) {b:Nat}(M:c b=0) (O:q.w0.heap.size<=b) (u:Kp (fun k=>k=b) W W'):DI R q c W' L op X:=by
 have hz:=u.size;have nd:∀j,j≠0->∀k,c k=j->¬k=b:=fun j hj k e F=>by rw[F,M]at e;omega
 obtain⟨b1,b2,b3,vo,vf,vt,I,F,G,H⟩:=h.bk;refine⟨cy h.be u (fun k e=>by rw[e];exact O) h.be.size,h.kab,h.tab,fun k e=>h.nf k (by omega),h.lo,h.cd,⟨b1,b2,b3,vo,vf,vt,u.blk I (nd 5 (by decide) _ h.cd),F.kp u (fun k e=>nd 6 (by decide) k (F.2 k e)),G.kp u (fun k e=>nd 7 (by decide) k (G.2 k e)),H.kp u (fun k e=>nd 8 (by decide) k (H.2 k e))⟩,h.lx.kp u (nd 1 (by decide)),h.ps.kp u (nd 2 (by decide)),h.gd,h.ss.kp u (nd 3 (by decide)),J.oth _ _ _ _ _ _ _ h.z u (fun k _=>nd 4 (by decide) k),h.bd⟩
theorem Sp.free {c':Nat->Nat}{V:World}(h:Sp c W c' V) {b:Nat}(G:W.heap.size<=b) (u:Kp (fun k=>k=b) V W'):Sp c W c' W':=⟨h.kp.step u (fun j H e=>by have F:j=b:=e;omega),h.z⟩
theorem th {e:Tv}{l:List Tv}(h:cQ (e :: l) X=some Y):∃Z,Aj e X=some Z/\cQ l Z=some Y:=by
 simp only[cQ]at h;cases u:Aj e X with
 |none=>rw[u]at h;cases h
 |some Z=>rw[u]at h;exact⟨Z,rfl,h⟩
def Jq (R:(Nat->Prop)->World->Nat->Nat->S9->Prop) (q:Gq) (c:Nat->Nat) (W:World) (L:j0) (op:ByteArray) (X:DS) (V:World) (p:Option Addr) (l:List Ev):Prop:=
 ∃c2,DI R q c2 V L op X/\Sp c W c2 V/\Ih V p l/\∀a,p=some a->c2 a.block=0
theorem qL (J:fh R) (h:DI R q c W L op X) {v:Value}{u:List Ev}{st:jd}(O:Pa (fun k=>c k=2) q.gp W W' v u st) (M:px st):∃p cap,v=.slice p u.length cap/\Jq R q c W L op { X with ps:=st } W' p u:=by
 obtain⟨c',G,H,F,I⟩:=h.par J O M;obtain⟨p,cap,e,_⟩:=F.shape;subst e;exact⟨p,cap,rfl,c',G,H,GJ F,fun a e=>I a.block (by rw[e];rfl)⟩
theorem DW {t:Tv}(h:Aj t X=some Y):∃F u,jZ t X.ps F 0 u/\fk F { X with ps:=u }=some Y:=by
 unfold Aj at h;cases G:DQ t X.ps with
 |none=>rw[G]at h;cases h
 |some x=>
  obtain⟨F,cc,u⟩:=x;rw[G]at h;simp only at h
  split at h
  ·rename_i hc
   subst hc;exact⟨F,u,DP G,h⟩
  ·cases h
theorem uD (hC:fh R) (h:DI R q c W L op X) {p:Option Addr}{l:List Tv}{cap:Nat}(hl:Lt W p l) (hp:∀a,p=some a->c a.block=0) (ax:l.length<=1000000000) (A B C:Int) (hy:cQ l X=some Y) :
  Kb 11 #[.pointer (some ⟨q.d,0,none⟩),.slice p l.length cap,.int .i64 0,.agg #[.int .i64 A,.int .i64 B,.int .i64 C]] W fun e w'=>e=.returned (.agg #[.int .i64 0,.int .i64 A,.int .i64 B,.int .i64 C])/\∃c',DI R q c' w' L op Y/\Sp c W c' w':=by
 obtain⟨W1,H⟩:∃W1,(W.alloc (.cells #[.int .i64 A,.int .i64 B,.int .i64 C] 33)).alloc (.cells #[.int .i64 0,.int .i64 0,.int .i64 0,.int .i64 0] 35)=W1:=⟨_,rfl⟩;have I:Below W.heap.size W W1:=by rw[<-H];exact((gt _ _).alloc (ge _) _).alloc (by rw[Eq];omega) _
 have ac:W1.heap[W.heap.size+1]?=some (.cells #[.int .i64 0,.int .i64 0,.int .i64 0,.int .i64 0] 35 (0,0)):=by
  rw[<-H];have:=am (W.alloc (.cells #[.int .i64 A,.int .i64 B,.int .i64 C] 33)) (.cells #[.int .i64 0,.int .i64 0,.int .i64 0,.int .i64 0] 35);rw[Eq]at this;exact this
 have ag:W1.heap[W.heap.size]?=some (.cells #[.int .i64 A,.int .i64 B,.int .i64 C] 33 (0,0)):=by
  rw[<-H];exact af (am W _) ((gt _ _).alloc (ge _) _)
 have HS:=ku fun c' V (M:Sp c W1 c' V)=>(Sp.below I).trans M
 have HX:Hid (∀c' V,Sp c W1 c' V->V.heap[W.heap.size]?=some (.cells #[.int .i64 A,.int .i64 B,.int .i64 C] 33 (0,0))/\V.heap[W.heap.size+1]?=some (.cells #[.int .i64 0,.int .i64 0,.int .i64 0,.int .i64 0] 35 (0,0))):=fun c' V M=>⟨M.kp.blk ag (fun e=>e (h.nf _ (ge _))),M.kp.blk ac (fun e=>e (h.nf _ (by omega)))⟩
 have HL:=ku fun c' V (M:Sp c W1 c' V)=>(hl.below I).kp M.kp (fun a e e2=>e2 (hp a e))
 have HI:Hid (∃c' Z,DI R q c' W1 L op Z/\Sp c W1 c' W1/\cQ (l.drop 0) Z=some Y):=⟨c,X,h.below hC I,Sp.below (gt _ _),hy⟩
 have HB:Hid (∀c' V Z,DI R q c' V L op Z->Sp c W1 c' V->∀V',Kp (fun k=>k=W.heap.size+1) V V'->DI R q c' V' L op Z/\Sp c W c' V'):=fun c' V Z hd M V' hk=>by
  have az:=h.be.size;have F:=ai ac;exact⟨hd.free hC (M.z _ F (h.nf _ (by omega))) (by omega) hk,((Sp.below I).trans M).free (by omega) hk⟩
 clear h hl hp hy I ag ac
 go_enter func11,ntmps11
 go_wp2_with fail
 try rw[H]
 clear H;obtain⟨b0,ad⟩:∃b0,W.heap.size=b0:=⟨_,rfl⟩;rw[ad]at HX HB ⊢;clear ad
 go_loopw [10,11,14] (fun _ _ i wr=>∃j:Nat,j<=l.length/\i=.int .i64 j/\Hid (∃c' Z,DI R q c' wr L op Z/\Sp c W1 c' wr/\cQ (l.drop j) Z=some Y)) (fun _ _ i _=>l.length-(intOf i).toNat)
 case atStart=>exact⟨0,Kj _,rfl,HI.out⟩
 case round=>
  obtain⟨j,hj,rfl,HJ⟩:=hrel;obtain⟨c1,Z,h1,s1,z1⟩:=HJ.out
  by_cases F:j<l.length
  ·have q1:(j:Int)<l.length:=by omega
   have q2:(0:Int)<=j:=by omega
   obtain⟨d,hd⟩:∃d,l[j]?=some d:=⟨_,Ke F⟩
   have kv:l.drop j=d :: l.drop (j+1):=by
    rw[KO F];rw[Ke F]at hd;rw[KH hd]
   rw[kv]at z1;obtain⟨Z2,z2,z3⟩:=th z1;obtain⟨b,off,rfl,k0,k1,k2,k3,k4,k5⟩:=HL.out c1 wr s1 j d hd;obtain⟨ev,ps',y1,y2⟩:=DW z2;obtain⟨g1,g2,_⟩:=Ad h1.gd y1
   have HP:Hid (∀V,Below wr.heap.size wr V->Kb 32 #[pt q.gp,.agg #[.int .u8 d.k,.string d.t,.int .i64 d.a,.int .i64 d.l,.int .i64 d.c,.int .i64 d.f]] V fun e w'=>∃O u,e=.returned (.tuple #[.slice O ev.length u,.int .i64 0])/\Hid (Jq R q c W1 L op { Z with ps:=ps' } w' O ev)):=fun V hb=>by
    have h2:=h1.below hC hb;refine(Au h2.ps (fun k hk=>h2.lt (by have h9:c1 k=2:=hk;omega)) h2.gd.ok y1).mono ?_;rintro e w'⟨v,rfl,hA⟩;obtain⟨O,u,rfl,c3,a1,a2,a3,a4⟩:=qL hC h2 hA g1;exact⟨O,u,rfl,c3,a1,s1.trans ((Sp.below hb).trans a2),a3,a4⟩
   have HQ:Hid (∀V O u,Hid (Jq R q c W1 L op { Z with ps:=ps' } V O ev)->Kb 31 #[.pointer (some ⟨q.d,0,none⟩),.slice O ev.length u,.int .i64 0] V fun e w'=>e=.returned (.int .i64 0)/\Hid (∃c2,DI R q c2 w' L op Z2/\Sp c W1 c2 w')):=fun V O u hV=>by
    obtain⟨c2,a1,a2,a3,a4⟩:=hV.out;refine(vI hC a1 a3 a4 (by omega) y2).mono ?_;rintro e w'⟨rfl,c3,b1,b2⟩;exact⟨rfl,c3,b1,a2.trans b2⟩
   have m7:=h1.cs.2.2.2.1;have cz:=h1.dl;have HZ:=ku z3;have Q8:=ku ((by unfold wrap64;omega:wrap64 ((j:Int)+1)=(j:Int)+1));clear HJ h1 s1 z1 z2 z3 kv hd y1 y2 g1 g2 HI HB;obtain⟨tk,tt,ta,tl,tc,tf⟩:=d;simp only at k0 k1 k2 k3 k4 k5 HP HQ
   go_wp2_with fail
   go_region_with (first|(go_at_call 32;refine(HP.out _ (by first|exact(gt _ _).alloc (ge _) _|exact((gt _ _).alloc (ge _) _).drew)).mono ?_;rintro e w5⟨O,u,rfl,K5⟩)|(go_at_call 31;refine(HQ.out _ _ _ K5).mono ?_;rintro e w6⟨rfl,K6⟩))
   all_goals(
    go_wp2_with fail
    obtain⟨c6,a1,a2⟩:=K6.out;exact⟨⟨j+1,F,rfl,c6,Z2,a1,a2,HZ.out⟩,by simp[intOf];omega⟩)
  ·obtain rfl:j=l.length:=by omega
   have q1:¬((l.length:Int)<l.length):=by omega
   rw[LT]at z1;have z9:=KH z1;subst z9;obtain⟨x0,G⟩:=HX.out c1 wr s1;have ah:wr.cell? ⟨b0,0,none⟩=some (.int .i64 A):=aa x0 rfl;have ak:wr.cell? ⟨b0,1,none⟩=some (.int .i64 B):=aa x0 rfl;have al:wr.cell? ⟨b0,2,none⟩=some (.int .i64 C):=aa x0 rfl;have c10:wr.cell? ⟨b0+1,0,none⟩=some (.int .i64 0):=aa G rfl;have an:wr.cell? ⟨b0+1,1,none⟩=some (.int .i64 0):=aa G rfl;have ap:wr.cell? ⟨b0+1,2,none⟩=some (.int .i64 0):=aa G rfl;have aq:wr.cell? ⟨b0+1,3,none⟩=some (.int .i64 0):=aa G rfl;have f0:wr.frozen? ⟨b0+1,0,none⟩=false:=aj G;have f1:wr.frozen? ⟨b0+1,1,none⟩=false:=aj G;have f2:wr.frozen? ⟨b0+1,2,none⟩=false:=aj G;have f3:wr.frozen? ⟨b0+1,3,none⟩=false:=aj G;have ay:=ai G;obtain⟨J,hWF⟩:∃J,(((wr.setCell ⟨b0+1,0,none⟩ (.int .i64 0)).setCell ⟨b0+1,1,none⟩ (.int .i64 A)).setCell ⟨b0+1,2,none⟩ (.int .i64 B)).setCell ⟨b0+1,3,none⟩ (.int .i64 C)=J:=⟨_,rfl⟩;have ae:Kp (fun k=>k=b0+1) wr J:=by rw[<-hWF];exact(((Kp.set _ _ _ _).trans (Kp.set _ _ _ _)).trans (Kp.set _ _ _ _)).trans (Kp.set _ _ _ _)
   have xF:J.heap[b0+1]?=some (.cells #[.int .i64 0,.int .i64 A,.int .i64 B,.int .i64 C] 35 (0,0)):=by rw[<-hWF];exact ab (ab (ab (ab G 0 _) 1 _) 2 _) 3 _
   have H9:=aK (HB.out _ _ _ h1 s1 J ae);have ar:J.cell? ⟨b0+1,0,none⟩=some (.int .i64 0):=aa xF rfl;have au:J.cell? ⟨b0+1,1,none⟩=some (.int .i64 A):=aa xF rfl;have av:J.cell? ⟨b0+1,2,none⟩=some (.int .i64 B):=aa xF rfl;have aw:J.cell? ⟨b0+1,3,none⟩=some (.int .i64 C):=aa xF rfl;clear HJ h1 s1 x0 G ae xF HB
   go_wp2_with fail
   try rw[hWF]
   clear hWF ah ak al c10 an ap aq f0 f1 f2 f3;refine Kv (v:=.agg #[.int .i64 0,.int .i64 A,.int .i64 B,.int .i64 C]) (by simp[results,Tryz.f11,go_sem,ar,au,av,aw]) rfl ?_;exact⟨rfl,_,H9.out⟩
end
open Go.Lib (strCells strCells_length)
section
variable {R:(Nat->Prop)->World->Nat->Nat->S9->Prop} {q:Gq} {c:Nat->Nat} {W W':World} {L:j0} {op:ByteArray} {X Y:DS}
theorem Bx (A B C:Int) (W:World):Kb 21 #[.int .i64 0,.agg #[.int .i64 A,.int .i64 B,.int .i64 C]] W fun e w'=>e=.returned .nilIface/\Below W.heap.size W w':=by
 go_enter func21,ntmps21
 go_wp2_with fail
 go_ret
 exact⟨rfl,(gt _ _).alloc (ge _) _⟩
theorem BP {b1 b2 b3:Int}{vo:Value}{o:Bool}{vf:Value}{vt:Value}(h:W.heap[q.d]?=some (vS q b1 b2 b3 vo o vf n vt)) :
  W.cell? ⟨q.d,2,none⟩=some (.int .i64 0)/\W.cell? ⟨q.d,3,none⟩=some (.int .i64 0)/\W.cell? ⟨q.d,4,none⟩=some (.int .i64 0)/\W.cell? ⟨q.d,5,none⟩=some (.int .i64 0):=
 ⟨aa h rfl,aa h rfl,aa h rfl,aa h rfl⟩
theorem uW (h:DI R q c W L op X):Kb 9 #[.pointer (some ⟨q.d,0,none⟩)] W fun e w'=>e=.returned .nilIface/\Kc W w':=by
 obtain⟨b1,b2,b3,vo,vf,vt,u,I,J,M⟩:=h.bk;obtain⟨c2,c3,c4,c5⟩:=BP u;have cz:=h.dl
 have G:Hid (∀V,Kc W V->Kb 21 #[.int .i64 0,.agg #[.int .i64 0,.int .i64 0,.int .i64 0]] V fun e w'=>e=.returned .nilIface/\Hid (Kc W w')):=fun V F=>by
  refine(Bx 0 0 0 V).mono ?_;rintro e w'⟨rfl,O⟩;exact⟨rfl,F.trans (O.mono F.size)⟩
 clear h u I J M
 go_enter func9,ntmps9
 go_wp2_with fail
 go_region_with (first|(go_at_call 21;refine(G.out _ (by first|exact gt _ _|exact(gt _ _).drew)).mono ?_;rintro e w1⟨rfl,H⟩))
 all_goals(
  go_wp2_with fail
  go_ret
  exact⟨rfl,H.out⟩)
theorem DE (h:DI R q c W L op X) (G:X.o=true):Kb 17 #[.pointer (some ⟨q.d,13,none⟩)] W fun e w'=>e=.returned (.bool false)/\Kc W w':=by
 obtain⟨b1,b2,b3,vo,vf,vt,F,H,I,J⟩:=h.bk;have u:=(aA F).1.2.1;rw[G]at u;clear h F H I J G
 go_enter func17,ntmps17
 go_wp2_with fail
 go_region
 all_goals(
  go_wp2_with fail
  go_ret
  exact⟨rfl,by first|exact gt _ _|exact(gt _ _).drew⟩)
theorem EG (hC:fh R) (h:DI R q c W L op X) (s:ByteArray) (hs:X.F.size+s.size<=1000000) :
  Kb 28 #[.pointer (some ⟨q.d,13,none⟩),.string s] W fun e w'=>e=.returned (.tuple #[])/\∃c',DI R q c' w' L op (pB s X)/\Sp c W c' w':=by
 have HA:=aK h;obtain⟨b1,b2,b3,vo,vf,vt,G,M,H,O⟩:=h.bk;obtain⟨⟨_,c13,c14,_,_⟩,fz⟩:=aA G;have ac:=fz 14;have cz:=h.dl;obtain⟨pp,cp,hv,hv1,hv2⟩:=H.shape;subst hv;have HT:=ku hs;have u:=aK (And.intro G (And.intro M (And.intro H O)));cases I:X.o with
 |true=>
  rw[I]at c13;have J:Hid (pB s X=X):=Kd I;clear h G M H O fz hs
  go_enter func28,ntmps28
  go_wp2_with fail
  go_end0
  rw[J.out];exact⟨rfl,c,HA.out,Sp.below (gt _ _)⟩
 |false=>
  rw[I]at c13;have J:Hid (pB s X={ X with F:=X.F++s }):=IO (by rw[I];decide);clear h G M H O fz hs
  go_enter func28,ntmps28
  go_wp2_with(first
   | (at_builtin;refine Jk (by rfl) _ _ (by rfl) _ _ _ (by rfl) u.out.2.2.1 (by rfl) (Kh HT.out (by decide)) ?_;intro v' w2 k1 k2 k3;obtain⟨hd,hx⟩:=HA.out.feds hC u.out.1 u.out.2.1 u.out.2.2.1 u.out.2.2.2 k1 k2 k3;have aa:=aK hx;have ab:=(aA hd).1.2.2.1;have ad:=(aA hd).2 14;obtain⟨p2,cp2,hv2',_,_⟩:=az k1;subst hv2';clear hd hx k1 k2 k3))
  go_end0
  rw[J.out];exact⟨rfl,aa.out⟩
end
section
variable {R:(Nat->Prop)->World->Nat->Nat->S9->Prop} {q:Gq} {c:Nat->Nat} {W W':World} {L:j0} {op:ByteArray} {X Y:DS}
theorem DI.fr2 (h:DI R q c W L op X) {i:Nat}(J:i≠0) {S:Nat->Prop}(G:Kp (fun k=>c k≠0) W W') (H:∀k,S k->c k=i\/W.heap.size<=k) (hl:∀k,S k->k<W'.heap.size):FR q c W i S W':=by
 have O:=h.be.size;have I:∀k,S k->c k=i\/c k=0:=fun k e=>(H k e).imp id (fun a=>h.nf k a)
 refine⟨cy h.be G (fun k e=>h.lo k e) h.be.size,fun k u=>?_,fun k u=>?_,qr J,fun j F M=>uY F M I,G,fun k u e=>?_⟩
 ·have hz:=G.size;unfold rc2;rw[IO (fun e=>by have:=hl k e;omega)];have:=h.nf k (by omega)
  split
  ·rfl
  ·exact this
 ·rcases LL k q.w0.heap.size with a|a
  ·exfalso
   apply u
   have F:c k=0:=by
    rcases Nu (c k)with e|e
    ·exact e
    ·have:=h.lo k (by omega);omega
   unfold rc2;rw[IO (fun e=>by rcases H k e with e|e<;>omega),IO (by omega)];exact F
  ·exact a
 ·unfold rc2;rw[IO (fun x=>by rcases H k x with y|y<;>omega)]
  split
  ·rfl
  ·exact e
theorem DI.opn (O:fh R) (h:DI R q c W L op X) {F:World}{op':ByteArray}{cap:Nat}{cs:Array Value}{fr:Nat × Nat}(u:Kp (fun k=>k=q.d) W F) (J:F.heap[W.heap.size]?=some (.cells cs 5 fr)) (hc:∀j,j<op'.size->cs[j]?=some (.int .u8 (av op' j)))
  (hd:∀b1 b2 b3 vo vf vt,W.heap[q.d]?=some (vS q b1 b2 b3 vo X.o vf X.n vt)->F.heap[q.d]?=some (vS q b1 b2 b3 (.slice (some ⟨W.heap.size,0,none⟩) op'.size cap) X.o vf X.n vt)) :
  ∃c',DI R q c' F L op' X/\Sp c W c' F:=by
 have nd:∀j,j≠5->∀k,c k=j->¬k=q.d:=fun j hj k e G=>by rw[G,h.cd]at e;omega
 have aa:=ai J;have f:=h.fr2 (i:=6) (by decide) (S:=fun k=>k=W.heap.size) (u.sub (fun k e=>by show c k≠0;rw[e,h.cd];decide)) (fun k e=>.inr (by omega)) (fun k e=>by omega);obtain⟨b1,b2,b3,vo,vf,vt,M,G,H,I⟩:=h.bk;refine⟨_,⟨f.be,h.kab,h.tab,f.nf,f.lo,f.cd (by decide) h.cd,⟨b1,b2,b3,_,vf,vt,hd _ _ _ _ _ _ M,?_,?_,?_⟩,?_,?_,h.gd,?_,?_,h.bd⟩,f.sp⟩
 ·rw[f.sf];exact⟨.inr ⟨W.heap.size,cap,cs,fr,rfl,J,hc⟩,fun k e=>(KH e).symm⟩
 ·rw[f.ot 7 (by decide) (by decide)];exact H.kp u (fun k e=>nd 7 (by decide) k (H.2 k e))
 ·rw[f.ot 8 (by decide) (by decide)];exact I.kp u (fun k e=>nd 8 (by decide) k (I.2 k e))
 ·rw[f.ot 1 (by decide) (by decide)];exact h.lx.kp u (nd 1 (by decide))
 ·rw[f.ot 2 (by decide) (by decide)];exact h.ps.kp u (nd 2 (by decide))
 ·rw[f.ot 3 (by decide) (by decide)];exact h.ss.kp u (nd 3 (by decide))
 ·rw[f.ot 4 (by decide) (by decide)];exact O.oth _ _ _ _ _ _ _ h.z u (fun k _=>nd 4 (by decide) k)
theorem DI.opn2 (G:fh R) (h:DI R q c W L op X) (Y:ByteArray) (len cap:Nat) (hl:len=Y.size) (cs:Array Value) (hc:∀j,j<Y.size->cs[j]?=some (.int .u8 (av Y j))) (fr:Nat × Nat) :
  ∃c',DI R q c' (((W.setCell ⟨q.d,12,none⟩ (.slice (some ⟨W.heap.size,0,none⟩) len cap)).alloc (.cells cs 5 fr)).drew) L Y X/\Sp c W c' (((W.setCell ⟨q.d,12,none⟩ (.slice (some ⟨W.heap.size,0,none⟩) len cap)).alloc (.cells cs 5 fr)).drew):=by
 subst hl;have hsz:(W.setCell ⟨q.d,12,none⟩ (.slice (some ⟨W.heap.size,0,none⟩) Y.size cap)).heap.size=W.heap.size:=Nt _ _ _;have F:=World.alloc_heap_new (W.setCell ⟨q.d,12,none⟩ (.slice (some ⟨W.heap.size,0,none⟩) Y.size cap)) (.cells cs 5 fr);rw[hsz]at F;have u:Below (W.setCell ⟨q.d,12,none⟩ (.slice (some ⟨W.heap.size,0,none⟩) Y.size cap)).heap.size (W.setCell ⟨q.d,12,none⟩ (.slice (some ⟨W.heap.size,0,none⟩) Y.size cap)) (((W.setCell ⟨q.d,12,none⟩ (.slice (some ⟨W.heap.size,0,none⟩) Y.size cap)).alloc (.cells cs 5 fr)).drew):=((gt _ _).alloc (ge _) _).drew;exact h.opn G (cap:=cap) ((cP _ _ _ _).then u) F hc (fun b1 b2 b3 vo vf vt e=>af (ab e 12 _) u)
abbrev JH (W:World) (d:Nat) (x y z:Value):World:=((W.setCell ⟨d,9,none⟩ x).setCell ⟨d,10,none⟩ y).setCell ⟨d,11,none⟩ z
theorem DI.beh (J:fh R) (h:DI R q c W L op X) (x y z:Int):DI R q c (JH W q.d (.int .i64 x) (.int .i64 (wrap64 y)) (.int .i64 z)) L op X/\Sp c W c (JH W q.d (.int .i64 x) (.int .i64 (wrap64 y)) (.int .i64 z)):=by
 obtain⟨b1,b2,b3,vo,vf,vt,I,u,G,H⟩:=h.bk;have F:Kp (fun k=>k=q.d) W (JH W q.d (.int .i64 x) (.int .i64 (wrap64 y)) (.int .i64 z)):=((cP _ _ _ _).trans (cP _ _ _ _)).trans (cP _ _ _ _);have nd:∀j,j≠5->∀k,c k=j->¬k=q.d:=fun j M k e u=>by rw[u,h.cd]at e;omega
 exact h.own J (o':=X.o) (F':=X.F) (n':=X.n) (td':=X.td) F ⟨x,y,z,vo,vf,vt,ab (ab (ab I 9 _) 10 _) 11 _,u.kp F (fun k e=>nd 6 (by decide) k (u.2 k e)),G.kp F (fun k e=>nd 7 (by decide) k (G.2 k e)),H.kp F (fun k e=>nd 8 (by decide) k (H.2 k e))⟩
theorem E4 (hC:fh R) (h:DI R q c W L op X) (s:ByteArray) (hs:X.F.size+s.size<=1000000) (ho:op.size+s.size<=1000000) :
  Kb 10 #[.pointer (some ⟨q.d,0,none⟩),.string s] W fun e w'=>e=.returned (.tuple #[])/\∃c',DI R q c' w' L (Lx.bZ (op++s)) (pB s X)/\Sp c W c' w':=by
 have HF:=aK (EG hC h s hs);have hsz:(op++s).size=op.size+s.size:=Lx.ax op s;have ad:=(Lx.cC (op++s)).1;have ac:Hid (∀V,Kb 29 #[.string (op++s)] V fun e w'=>e=.returned (.int .i64 (Lx.wh (op++s)))/\Kc V w'):=fun V=>Lx.mD _ V (by omega)
 have au:=Lx.mP;have cz:=h.dl;obtain⟨n,hn⟩:∃n,Lx.wh (op++s)=n:=⟨_,rfl⟩;have ag:Hid (Lx.bZ (op++s)=(op++s).extract n (op++s).size):=by rw[<-hn];exact rfl
 rw[hn]at ac ad;have i1:(0:Int)<=n:=by omega
 have i2:(n:Int)<=(op++s).size:=by omega
 have i3:(n:Int)<=(op.size:Int)+s.size:=by omega
 have i4:n<=op.size+s.size:=by omega
 have al:¬(9223372036854775807<op.size+s.size):=by omega
 clear h hs hsz hn
 go_enter func10,ntmps10
 go_wp2_with(first
  | (go_at_call 28;refine HF.out.mono ?_;rintro e w1⟨rfl,c1,a1,a2⟩;have HA:=aK (And.intro a1 a2);obtain⟨b1,b2,b3,vo,vf,vt,u,F,H,I⟩:=a1.bk;have ap:=(aA u).1.1;obtain⟨pp,cp,hv⟩:=F.shape;have cv:=Lx.gR F;subst hv;clear a1 a2 u F H I)
  | (go_at_call 29;refine(ac.out _).mono ?_;rintro e w2⟨rfl,aa⟩;have J:=aK (And.intro (HA.out.1.below hC aa) (HA.out.2.trans (Sp.below aa)));obtain⟨b1,b2,b3,vo,vf,vt,u,F,H,I⟩:=J.out.1.bk;obtain⟨_,_,_,_,_,d9,d10,d11⟩:=iL u;have fz:=(aA u).2;have f9:=fz 9;have aq:=fz 10;have ar:=fz 11;have am:=ai u;clear u F H I fz aa))
 have af:Hid (∀V,Kc w2 V->Kb 30 #[.agg #[.int .i64 b1,.int .i64 (wrap64 b2),.int .i64 b3],.string ((op++s).extract 0 n)] V fun e w'=>∃x y z,e=.returned (.agg #[.int .i64 x,.int .i64 (wrap64 y),.int .i64 z])/\Hid (Kc w2 w')):=fun V hb=>by
  refine(Lx.ja b1 (wrap64 b2) b3 _ V ?_ ?_).mono ?_
  ·rw[Lx.ag _ _ _ ad];have:=Lx.ax op s;omega
  ·unfold wrap64;omega
  ·rintro e w'⟨rfl,h1⟩;exact⟨_,_,_,rfl,hb.trans (h1.mono hb.size)⟩
 go_region_with (first|(go_at_call 30;refine(af.out _ (by first|exact gt _ _|exact(gt _ _).drew)).mono ?_;rintro e w5⟨x,y,z,rfl,ab⟩;have M:=aK (And.intro (J.out.1.below hC ab.out) (J.out.2.trans (Sp.below ab.out)));obtain⟨g1,g2,g3,vo5,vf5,vt5,u,F,H,I⟩:=M.out.1.bk;obtain⟨_,_,_,_,_,n9,n10,n11⟩:=iL u;have fz:=(aA u).2;have p9:=fz 9;have aj:=fz 10;have ak:=fz 11;have ae:=ai u;clear u F H I fz ab))
 all_goals(
  obtain⟨W7,O⟩:∃W7,W7=((w5.setCell ⟨q.d,9,none⟩ (.int .i64 x)).setCell ⟨q.d,10,none⟩ (.int .i64 (wrap64 y))).setCell ⟨q.d,11,none⟩ (.int .i64 z):=⟨_,rfl⟩
  have G:Hid (DI R q c1 W7 L op (pB s X)/\Sp c W c1 W7):=by
   obtain⟨a1,a2⟩:=M.out.1.beh hC x y z;rw[O];exact⟨a1,M.out.2.trans a2⟩
  have an:=G.out.1.dl;obtain⟨r1,r2,r3,ax,aw,ay,u,F,H,I⟩:=G.out.1.bk;have u12:=(aA u).1.1;have av:=(aA u).2 12;rw[<-O];clear O u F H I n9 n10 n11 p9 aj ak ae
  go_wp2_with fail
  go_end0
  rw[ag.out];have ah:(op++s).size=op.size+s.size:=Lx.ax op s;obtain⟨c9,x1,x2⟩:=G.out.1.opn2 hC ((op++s).extract n (op.size+s.size)) (op.size+s.size-n) (grownCap W7 (op.size+s.size-n) 0 5) (by rw[Lx.ag _ _ _ (by omega)]) (bytesRow ((op++s).extract n (op.size+s.size)) (grownCap W7 (op.size+s.size-n) 0 5)) (fun j hj=>Lx.iT _ _ _ hj) _;rw[ah];exact⟨rfl,c9,x1,G.out.2.trans x2⟩)
end
section
variable {R:(Nat->Prop)->World->Nat->Nat->S9->Prop} {q:Gq} {c:Nat->Nat} {W W':World} {L:j0} {op:ByteArray} {X Y:DS}
theorem Fw {H:Array Oper}{rest:List Oper}{o':Oper}{a:Act}{Q:Exit->Act->World->Prop}(O:o'.guard=none) (J M:Operand) (ho:o'.op=.call { callee:=.builtin .append,args:=#[J,M],argTypes:=#[52,52] }) (b:Nat) (hs:a.eval J=.slice (some ⟨b,0,none⟩) 0 0) (hb:W.heap[b]?=some (.cells #[] 5 (0,0)))
  (g off m cp:Nat) (hx:a.eval M=.slice (some ⟨g,off,none⟩) m cp) (Y:ByteArray) (hm:Y.size=m) (hl:m<=1000000) (hc:∀j,j<m->W.cell? ⟨g,off+j,none⟩=some (.int .u8 (av Y j)))
  (h:∀v' w',w'.ownsRow 0 5 1 v' Y.size (strCells Y)->W.grownBy w' (some b)->(v'.ownBlock=some b\/v'.ownBlock=some W.heap.size)->wpList Tryz.prog H Q rest (a.put o'.dst v') w'):wpList Tryz.prog H Q (o' :: rest) a W:=by
 obtain⟨i0,hi,aa,ab,ac⟩:=LJ Tryz.dru8;have I:W.ownsRow 0 5 1 (.slice (some ⟨b,0,none⟩) 0 0) 0 []:=⟨rfl,.inr ⟨b,0,#[],rfl,Kj _,hb,ge _,Kj _,by simp,by simp⟩⟩;refine L7 (P:=Tryz.prog) (w:=W) O J M 52 ho 0 5 i0 _ 1 1 underlying52 hi aa ab ac rfl (by decide) _ 0 [] hs I ⟨g,off,none⟩ m cp (strCells Y) hx (by rw[strCells_length,hm];exact(MA _).symm) ?_ (by intro u F;obtain⟨j,G,e⟩:=List.getElem_of_mem F;have e2:=Lx.oa Y j (by rw[strCells_length]at G;exact G);rw[Ke G,e]at e2;rw[KH e2];rfl) (by unfold maxLen;omega) (by omega) (Kj _) ?_
 ·intro j u F
  have G:j<Y.size:=by
   rcases LL j (strCells Y).length with e|e
   ·rw[strCells_length]at e;exact e
   ·rw[MF e]at F;cases F
  rw[Lx.oa Y j G]at F;rw[KV,<-KH F];exact hc j (by omega)
 ·intro v' w' k1 k2 _ k4;rw[Km,<-hm]at k1;exact h v' w' k1 k2 k4
theorem zP (a:Addr) (m cp:Nat) (w:World):(binOp .eql 52 (.slice (some a) m cp) (.slice none 0 0)).run Tryz.prog w=.ok (.bool false) w:=by kernel_rfl
theorem DD (w:World):(binOp .eql 52 (.slice none 0 0) (.slice none 0 0)).run Tryz.prog w=.ok (.bool true) w:=by kernel_rfl
theorem E6 (W:World):Kb 36 #[.slice none 0 0] W fun e w'=>e=.returned (.slice none 0 0)/\w'=W:=by
 have u:=DD W
 go_enter func36,ntmps36
 go_wp2_with fail
 go_ret
 exact⟨rfl,rfl⟩
theorem E7 (W:World) (g off m cp:Nat) (Y:ByteArray) (hm:Y.size=m) (hz:m<=1000000) (hc:∀j,j<m->W.cell? ⟨g,off+j,none⟩=some (.int .u8 (av Y j))) :
  Kb 36 #[.slice (some ⟨g,off,none⟩) m cp] W fun e w'=>∃v',e=.returned v'/\w'.ownsRow 0 5 1 v' Y.size (strCells Y)/\Kc W w'/\∀k,v'.ownBlock=some k->W.heap.size<=k:=by
 have HC:=aK hc;have e1:=zP ⟨g,off,none⟩ m cp W;clear hc;have HZ:Hid (Y.size=m/\m<=1000000):=⟨hm,hz⟩;obtain⟨W1,G⟩:∃W1,W.alloc (.cells #[] 5)=W1:=⟨_,rfl⟩;have F:Kc W W1:=by rw[<-G];exact(gt _ _).alloc (ge _) _
 have J:W1.heap[W.heap.size]?=some (.cells #[] 5 (0,0)):=by rw[<-G];exact am _ _
 have H1:=aK F;have H:∀j,j<m->W1.cell? ⟨g,off+j,none⟩=some (.int .u8 (av Y j)):=fun j hj=>(F.cell (p:=⟨g,off+j,none⟩) (Kg _ _ (HC.out j hj))).trans (HC.out j hj)
 have aa:Hid (∀{M:Array Oper} {u:List Oper} {o':Oper} {a:Act} {Q:Exit->Act->World->Prop} (I:o'.guard=none) (sO xO:Operand) (ho:o'.op=.call { callee:=.builtin .append,args:=#[sO,xO],argTypes:=#[52,52] }) (hs:a.eval sO=.slice (some ⟨W.heap.size,0,none⟩) 0 0) (hx:a.eval xO=.slice (some ⟨g,off,none⟩) m cp)
   (h:∀v' w',w'.ownsRow 0 5 1 v' Y.size (strCells Y)->W1.grownBy w' (some W.heap.size)->(v'.ownBlock=some W.heap.size\/v'.ownBlock=some W1.heap.size)->wpList Tryz.prog M Q u (a.put o'.dst v') w'),wpList Tryz.prog M Q (o' :: u) a W1):=fun I sO xO ho hs hx h=>Fw I sO xO ho _ hs J g off m cp hx Y hm hz H h
 clear F J H HC hm hz HZ
 go_enter func36,ntmps36
 go_wp2_with(first
  | (at_builtin;refine aa.out (by rfl) _ _ (by rfl) (by rfl) (by rfl) ?_;intro v' w2 k1 k2 k3;have K:=aK (And.intro k1 (And.intro k2 k3));obtain⟨p2,ab,O,_,_⟩:=az k1;subst O;clear k1 k2 k3))
 go_ret
 refine⟨_,rfl,K.out.1,H1.out.grown K.out.2.1 H1.out.size (fun k e=>by cases e;exact ge _),fun k e=>?_⟩;have e':(Value.slice p2 Y.size ab).ownBlock=some k:=e;have hsz:=H1.out.size
 rcases K.out.2.2 with a|a
 ·rw[a]at e';cases e';exact ge _
 ·rw[a]at e';cases e';exact hsz
theorem DI.fdn (hC:fh R) (h:DI R q c W L op X) {W1:World}{v':Value}{F':ByteArray}(hr:W1.ownsRow 0 5 1 v' F'.size (strCells F')) (H:Kc W W1) (hv:∀k,v'.ownBlock=some k->W.heap.size<=k) (n:Nat) :
  (∀k,v'.ownBlock=some k->k≠q.d)/\∃c',DI R q c' ((W1.setCell ⟨q.d,14,none⟩ v').setCell ⟨q.d,15,none⟩ (.int .i64 n)) L op { X with F:=F',n:=n }/\Sp c W c' ((W1.setCell ⟨q.d,14,none⟩ v').setCell ⟨q.d,15,none⟩ (.int .i64 n)):=by
 have cz:=h.dl
 have hl:∀k,v'.ownBlock=some k->k<W1.heap.size:=fun k e=>by
  rcases hr.2 with⟨rfl,_⟩|⟨b,cap,aa,rfl,_,h6,_⟩
  ·cases e
  ·cases e;exact ai h6
 have u:∀k,v'.ownBlock=some k->k≠q.d:=fun k e M=>by have:=hv k e;omega
 refine⟨u,?_⟩;have O:Kp (fun k=>c k=7) W W1:=Kp.of_below H;have hs:∀k,v'.ownBlock=some k->c k=7\/W.heap.size<=k:=fun k e=>.inr (hv k e)
 have f:=h.fr (i:=7) (by decide) O hs hl;have I:Kp (fun k=>k=q.d) W1 ((W1.setCell ⟨q.d,14,none⟩ v').setCell ⟨q.d,15,none⟩ (.int .i64 n)):=(cP _ _ _ _).trans (cP _ _ _ _);obtain⟨b1,b2,b3,vo,vf,vt,e1,G,e3,J⟩:=h.bk;have hd:=af e1 H;have nd:∀j,j≠5->∀k,c k=j->¬k=q.d:=fun j hj k e G=>by rw[G,h.cd]at e;omega
 exact⟨_,h.rows hC (i:=7) (by decide) (o':=X.o) (td':=X.td) O hs hl I ⟨b1,b2,b3,vo,v',vt,ab (ab hd 14 v') 15 _,by rw[f.ot 6 (by decide) (by decide)];exact(G.below H).kp I (fun k e=>nd 6 (by decide) k (G.2 k e)),by rw[f.sf];exact fJ.kp ⟨hr,fun k e=>e⟩ I (fun k e M=>u k e M),by rw[f.ot 8 (by decide) (by decide)];exact(J.below H).kp I (fun k e=>nd 8 (by decide) k (J.2 k e))⟩⟩
end
section
variable {R:(Nat->Prop)->World->Nat->Nat->S9->Prop} {q:Gq} {c:Nat->Nat} {W W':World} {L:j0} {op:ByteArray} {X Y:DS}
theorem zy (h:X.F.size-X.n<=X.n):dP X={ X with F:=X.F.extract X.n X.F.size,n:=0 }:=Kd h
theorem Gp (h:¬X.F.size-X.n<=X.n):dP X=X:=IO h
def JC (W:World) (F':ByteArray) (w:World) (v:Value):Prop:=w.ownsRow 0 5 1 v F'.size (strCells F')/\Below W.heap.size W w/\∀k,v.ownBlock=some k->W.heap.size<=k
theorem vY (W:World) {g off m cp:Nat}{F':ByteArray}(J:F'.size=m) (O:m<=1000000) (hc:∀j,j<m->W.cell? ⟨g,off+j,none⟩=some (.int .u8 (av F' j))):∀V,Kc W V->Kb 36 #[.slice (some ⟨g,off,none⟩) m cp] V fun e w'=>∃H u,e=.returned (.slice H m u)/\Hid (JC W F' w' (.slice H m u)):=fun V G=>by
 refine(E7 V g off m cp F' J O (fun j I=>(G.cell (p:=⟨g,off+j,none⟩) (Kg _ _ (hc j I))).trans (hc j I))).mono ?_;rintro e w'⟨v',rfl,M,k2,k3⟩;have F:=M;rw[J]at F;obtain⟨H,u,hv,_,_⟩:=az F;subst hv;exact⟨H,u,rfl,M,G.trans (k2.mono G.size),fun k e=>Kh G.size (k3 k e)⟩
theorem Dh (hC:fh R) (h:DI R q c W L op X) (hF:X.F.size<=1000000) (hn:X.n<=X.F.size) :
  Kb 13 #[.pointer (some ⟨q.d,13,none⟩)] W fun e w'=>e=.returned (.tuple #[])/\∃c',DI R q c' w' L op (dP X)/\Sp c W c' w':=by
 have HA:=aK h;obtain⟨b1,b2,b3,vo,vf,vt,M,e2,O,e4⟩:=h.bk;obtain⟨⟨_,_,c14,c15,_⟩,fz⟩:=aA M;have cz:=h.dl;obtain⟨F,hFe⟩:∃F,X.F=F:=⟨_,rfl⟩;obtain⟨n,hne⟩:∃n,X.n=n:=⟨_,rfl⟩;have HM:Hid (X.F=F/\X.n=n):=⟨hFe,hne⟩;have HE:=aK M;rw[hne]at c15;have aa:=fz 14;have ab:=fz 15;have HN:=ku fun w v (hv:JC W (F.extract n F.size) w v)=>(h.fdn hC hv.1 hv.2.1 hv.2.2 0).2
 rcases O.1.2 with⟨rfl,h0⟩|⟨g,cap,am,rfl,g1,g2,g3,g4,g5⟩
 ·have ak:F.size=0:=by rw[<-hFe];exact h0
  have ae:n=0:=by omega
  have J:Hid (dP X={ X with F:=F.extract n F.size,n:=0 }):=by
   show _=_
   rw[zy (by omega),hFe,hne]
  have af:Hid (JC W (F.extract n F.size) W (.slice none 0 0)):=⟨(Lx.eY (fun _=>True) W (by rw[Lx.ag _ _ _ (ge _)];omega)).1,gt _ _,fun k e=>by cases e⟩;have u:=ku E6;rw[ae]at c15;clear h M e2 O e4 fz hF hn h0 ak ae hFe hne
  go_enter func13,ntmps13
  go_wp2_with fail
  go_region
  all_goals(
   go_wp2_with(first|(go_at_call 36;refine(u.out _).mono ?_;rintro e w1⟨rfl,rfl⟩))
   go_end0
   rw[J.out];obtain⟨c',x1,x2⟩:=HN.out _ _ af.out
   first
   |exact⟨rfl,c',x1,x2⟩
   |exact⟨rfl,c',x1.below hC (gt _ _).drew,x2.trans (Sp.below (gt _ _).drew)⟩)
 ·have I:∀j,j<F.size-n->W.cell? ⟨g,n+j,none⟩=some (.int .u8 (av (F.extract n F.size) j)):=fun j hj=>by
   have ac:n+j<F.size:=by omega
   have:=O.1.cells (g:=g) rfl (n+j) _ (Lx.oa X.F (n+j) (by rw[hFe];exact ac));rw[KV,Km,hFe]at this;rw[this,Lx.aB F n F.size j ac]
  have hsz:(F.extract n F.size).size=F.size-n:=Lx.ag _ _ _ (ge _);rw[hFe]at c14 g3 hF hn;rw[hne]at hn;have q1:(n:Int)<=F.size:=by omega
  have q2:(0:Int)<=n:=by omega
  have u:=aK (vY W (g:=g) (off:=n) (cp:=cap-n) hsz (by omega) I);have H:Hid (cap=n->∀V,Kc W V->Kb 36 #[.slice (some ⟨g,0,none⟩) (F.size-n) 0] V fun e w'=>∃p2 G,e=.returned (.slice p2 (F.size-n) G)/\Hid (JC W (F.extract n F.size) w' (.slice p2 (F.size-n) G))):=fun e=>vY W (g:=g) (off:=0) (cp:=0) hsz (by omega) (fun j hj=>by omega)
  by_cases ad:F.size-n<=n
  ·have J:Hid (dP X={ X with F:=F.extract n F.size,n:=0 }):=by
    show _=_
    rw[zy (by rw[hFe,hne];exact ad),hFe,hne]
   have q3:(n:Int)>=(F.size:Int)-n:=by omega
   clear h M e2 O e4 fz I hsz hFe hne g1 g2 g5
   go_enter func13,ntmps13
   go_wp2_with fail
   go_region
   all_goals(
    go_wp2_with(first
     | (go_at_call 36;refine(u.out _ (by first|exact gt _ _|exact(gt _ _).drew)).mono ?_;rintro e w1⟨p2,G,rfl,K⟩;have al:=Kl cz K.out.2.1.size;have ag:=(K.out.2.1.cell (p:=⟨q.d,14,none⟩) cz).trans c14;have ah:=(K.out.2.1.cell (p:=⟨q.d,15,none⟩) cz).trans c15;have ai:=(K.out.2.1.frozen (p:=⟨q.d,14,none⟩) cz).trans aa;have aj:=(K.out.2.1.frozen (p:=⟨q.d,15,none⟩) cz).trans ab)
     | (go_at_call 36;refine(H.out (by assumption) _ (by first|exact gt _ _|exact(gt _ _).drew)).mono ?_;rintro e w1⟨p2,G,rfl,K⟩;have al:=Kl cz K.out.2.1.size;have ag:=(K.out.2.1.cell (p:=⟨q.d,14,none⟩) cz).trans c14;have ah:=(K.out.2.1.cell (p:=⟨q.d,15,none⟩) cz).trans c15;have ai:=(K.out.2.1.frozen (p:=⟨q.d,14,none⟩) cz).trans aa;have aj:=(K.out.2.1.frozen (p:=⟨q.d,15,none⟩) cz).trans ab))
    all_goals(
    go_end0
    rw[J.out];obtain⟨c',x1,x2⟩:=HN.out _ _ K.out
    first
    |exact⟨rfl,c',x1,x2⟩
    |exact⟨rfl,c',x1.below hC (gt _ _).drew,x2.trans (Sp.below (gt _ _).drew)⟩))
  ·have J:=ku (Gp (by rw[hFe,hne];exact ad));have q3:¬((n:Int)>=(F.size:Int)-n):=by omega
   clear h M e2 O e4 fz I hsz hFe hne g1 g2 g5 u H
   go_enter func13,ntmps13
   go_wp2_with fail
   go_region
   all_goals(
    go_wp2_with fail
    all_goals(
     go_end0
     rw[J.out]
     first
     |exact⟨rfl,c,HA.out,Sp.below (gt _ _)⟩
     |exact⟨rfl,c,HA.out.below hC (gt _ _).drew,Sp.below (gt _ _).drew⟩))
end
section
variable {R:(Nat->Prop)->World->Nat->Nat->S9->Prop} {q:Gq} {c:Nat->Nat} {W W':World} {L:j0} {op:ByteArray} {X Y:DS}
theorem BV (h:DI R q c W L op X) (ho:op.size<=1000000):Kb 43 #[.pointer (some ⟨q.d,0,none⟩)] W fun e w'=>∃x y z:Int,e=.returned (.agg #[.int .i64 x,.int .i64 y,.int .i64 z])/\Below W.heap.size W w':=by
 obtain⟨b1,b2,b3,vo,vf,vt,e1,e2,e3,e4⟩:=h.bk;obtain⟨W1,hW1⟩:∃W1,W.alloc (.cells #[.int .i64 0,.int .i64 0,.int .i64 0] 33)=W1:=⟨_,rfl⟩;have G:Below W.heap.size W W1:=by rw[<-hW1];exact(gt _ _).alloc (ge _) _
 have J:W1.heap[W.heap.size]?=some (.cells #[.int .i64 0,.int .i64 0,.int .i64 0] 33 (0,0)):=by rw[<-hW1];exact am _ _
 have F:=af e1 G;have ag:=(aA F).1.1;obtain⟨_,_,_,_,_,c9,c10,ae⟩:=iL F;have cz:=ai F;have an:=ai J;have I:=fun V (hb:Below W1.heap.size W1 V)=>Lx.gR ((e2.below G).below hb)
 obtain⟨pp,cp,hv⟩:=e2.shape;subst hv;have ah:=I W1 (gt _ _);have ak:=I W1.drew (gt _ _).drew;have O:=aK (And.intro G J)
 have ac:Hid (∀V,Below W1.heap.size W1 V->Kb 30 #[.agg #[.int .i64 b1,.int .i64 (wrap64 b2),.int .i64 b3],.string op] V fun e w'=>∃x y z,e=.returned (.agg #[.int .i64 x,.int .i64 (wrap64 y),.int .i64 z])/\Hid (Below W1.heap.size W1 w')):=fun V hb=>by
  refine(Lx.ja b1 (wrap64 b2) b3 _ V (by omega) (by unfold wrap64;omega)).mono ?_;rintro e w'⟨rfl,h1⟩;exact⟨_,_,_,rfl,hb.trans (h1.mono hb.size)⟩
 clear h e1 e2 e3 e4 F I ho G J
 go_enter func43,ntmps43
 go_wp2_with fail
 go_region_with (first|(go_at_call 30;refine(ac.out _ (by first|exact gt _ _|exact(gt _ _).drew)).mono ?_;rintro e M⟨x,y,z,rfl,H⟩;have u:=af O.out.2 H.out;have ad:=aK u;have al:=ai u;have m0:M.cell? ⟨W.heap.size,0,none⟩=some (.int .i64 0):=aa u rfl;have m1:M.cell? ⟨W.heap.size,1,none⟩=some (.int .i64 0):=aa u rfl;have m2:M.cell? ⟨W.heap.size,2,none⟩=some (.int .i64 0):=aa u rfl;have f0:M.frozen? ⟨W.heap.size,0,none⟩=false:=aj u;have f1:M.frozen? ⟨W.heap.size,1,none⟩=false:=aj u;have f2:M.frozen? ⟨W.heap.size,2,none⟩=false:=aj u;clear u))
 all_goals(
  go_wp2_with fail
  have xF:=ab (ab (ab ad.out 0 (.int .i64 x)) 1 (.int .i64 (wrap64 y))) 2 (.int .i64 z);have d0:=aa (k:=0) (v:=.int .i64 x) xF rfl;have d1:=aa (k:=1) (v:=.int .i64 (wrap64 y)) xF rfl;have d2:=aa (k:=2) (v:=.int .i64 z) xF rfl;refine Kv (v:=.agg #[.int .i64 x,.int .i64 (wrap64 y),.int .i64 z]) (by simp[results,Tryz.f43,go_sem,d0,d1,d2]) rfl ?_;refine⟨x,wrap64 y,z,rfl,cy (S:=fun k=>k=W.heap.size) (O.out.1.trans (H.out.mono O.out.1.size)) (((Kp.set _ _ _ _).trans (Kp.set _ _ _ _)).trans (Kp.set _ _ _ _)) (fun k e=>by rw[e];exact ge _) (Kh O.out.1.size H.out.size)⟩)
theorem rJ (hC:fh R) (h:DI R q c W L op X) (A B C:Int):Kb 14 #[.pointer (some ⟨q.d,0,none⟩),.agg #[.int .i64 0,.int .i64 A,.int .i64 B,.int .i64 C]] W fun e w'=>e=.returned (.tuple #[.string X.td,.nilIface])/\DI R q c w' L op { X with td:=emp }/\Sp c W c w':=by
 obtain⟨b1,b2,b3,vo,vf,vt,e1,J,e3,e4⟩:=h.bk;have cz:=h.dl;obtain⟨W1,hW1⟩:∃W1,W.alloc (.cells #[.int .i64 0,.int .i64 A,.int .i64 B,.int .i64 C] 35)=W1:=⟨_,rfl⟩;have u:Below W.heap.size W W1:=by rw[<-hW1];exact(gt _ _).alloc (ge _) _
 have F:W1.heap[W.heap.size]?=some (.cells #[.int .i64 0,.int .i64 A,.int .i64 B,.int .i64 C] 35 (0,0)):=by rw[<-hW1];exact am _ _
 have H:=af e1 u;have ag:=(aA H).1.2.2.2.2;have ah:=(aA H).2 16;have cv:=Lx.cZ (e4.below u);obtain⟨pp,cp,hv,_⟩:=e4.shape;subst hv;have I:Kp (fun k=>k=q.d) W1 (W1.setCell ⟨q.d,16,none⟩ (.slice none 0 0)):=cP _ _ _ _;have nd:∀j,j≠5->∀k,c k=j->¬k=q.d:=fun j hj k e J=>by rw[J,h.cd]at e;omega
 have G:=(h.below hC u).own hC (o':=X.o) (F':=X.F) (n':=X.n) (td':=emp) (op':=op) I ⟨b1,b2,b3,vo,vf,.slice none 0 0,ab H 16 _,(J.below u).kp I (fun k e=>nd 6 (by decide) k (J.2 k e)),(e3.below u).kp I (fun k e=>nd 7 (by decide) k (e3.2 k e)),Lx.eY _ _ rfl⟩;have ad:=aa (k:=0) (v:=.int .i64 0) ((I.blk F (fun e=>by have e9:W.heap.size=q.d:=e;omega))) rfl;have hy:=(I.blk F (fun e=>by have e9:W.heap.size=q.d:=e;omega));have y0:W1.cell? ⟨W.heap.size,0,none⟩=some (.int .i64 0):=aa F rfl;have y1:W1.cell? ⟨W.heap.size,1,none⟩=some (.int .i64 A):=aa F rfl;have y2:W1.cell? ⟨W.heap.size,2,none⟩=some (.int .i64 B):=aa F rfl;have y3:W1.cell? ⟨W.heap.size,3,none⟩=some (.int .i64 C):=aa F rfl;have ai:W.heap.size≠q.d:=by omega
 have ae:q.d≠W.heap.size:=by omega
 have M:=aK (And.intro G.1 ((Sp.below u).trans G.2));have ac:=ku (Bx A B C);clear h e1 J e3 e4 H G ad hy I u F nd
 go_enter func14,ntmps14
 go_wp2_with(first|(go_at_call 21;refine(ac.out _).mono ?_;rintro e w5⟨rfl,O⟩))
 go_ret2
 exact⟨rfl,M.out.1.below hC O,M.out.2.trans (Sp.below O)⟩
end
