import Derived.Lib.LastIndexByte
import Derived.ArgAppend
import Derived.Test.YthfjlkfeeglfmaaGreatDoorM05
import Derived.Test.YthfjlkfeeglfmaaGreatDoorM12
import Derived.Test.YthfjlkfeeglfmaaGreatDoorM18
set_option linter.all false
set_option maxHeartbeats 16000000
set_option maxRecDepth 100000
namespace Go.Proofs.YthfjlkfeeglfmaaGreatDoor.Lw
open Go.Proofs.Tryz
open Lx
open Go.RowKit
section
variable {w':World}{k:Nat}
structure Fz (own own':Nat->Nat) (W w':World):Prop where
 os:w'.os=W.os
 tape:w'.tape=W.tape
 output:w'.output=W.output
 size:W.heap.size<=w'.heap.size
 blk:∀k,k<W.heap.size->own k=0->w'.heap[k]?=W.heap[k]?/\own' k=0
def Fz.refl (own:Nat->Nat) (W:World):Fz own own W W:=⟨rfl,rfl,rfl,ge _,λ_ _ h=>⟨rfl,h⟩⟩
def Fz.trans {G H o3:Nat->Nat}{A C D:World}(h:Fz G H A C) (k:Fz H o3 C D):Fz G o3 A D:=
 ⟨k.os.trans h.os,k.tape.trans h.tape,k.output.trans h.output,PI h.size k.size,λj u M=>by
  obtain⟨I,J⟩:=h.blk j u M;obtain⟨b1,b2⟩:=k.blk j (R4 u h.size) J;exact⟨b1.trans I,b2⟩⟩
def cA.fz {P:Nat->Prop}{own own':Nat->Nat}{W:World}(h:cA P own own' W w') (u:¬P 0):Fz own own' W w':=
 ⟨h.os,h.tape,h.output,h.size,λk G e=>⟨h.block k G (by rw[e];exact u),(h.old k G (by rw[e];exact u)).trans e⟩⟩
def Fz.of_below {own:Nat->Nat}{W w':World}(h:Below W.heap.size W w'):Fz own own W w':=⟨h.os,h.tape,h.output,h.size,λk u e=>⟨h.block k u,e⟩⟩
def cA.set {P:Nat->Prop}{own:Nat->Nat}{W:World}{g:Nat}(u:P (own g)) (k:Nat) (v:Value):cA P own own W (W.setCell ⟨g,k,none⟩ v):=by
 have h:=Kp.set W g k v;exact⟨h.os,h.tape,h.output,h.size,λj G H=>h.block j G (λe=>H (by rw[e];exact u)),λ_ _ _=>rfl⟩
def En.frp {P:Nat->Prop}{own own':Nat->Nat}{w w':World}(h:En own w) (I:¬P 0) (M:Nf own' w') (u:cA P own own' w w'):En own' w':=by
 have O:=u.old 2 h.tab.pos (by rw[h.z];exact I);refine⟨M,?_,O.trans h.z⟩
 have G:Fr 1 (λk=>if k=2 then 0 else 1) (λk=>if k=2 then 0 else 1) w w':=⟨u.os,u.tape,u.output,u.size,λk J H=>by
  have e:k=2:=Uj λe=>H (Eq e)
  exact u.block k J (by rw[e,h.z];exact I),λ_ _=>rfl⟩
 exact G.tab h.tab (by simp)
structure CS where
 op:Nat
 tot:Int
 hl:List Nat
 wl:List Nat
 m:Pm
 pr:Pr
def pY (qh qw:Nat) (c:CS):rG:=⟨.bool false,Tu (c.op:Nat),Tu c.tot,.pointer (some ⟨qh,0,none⟩),Tu (c.hl.length:Nat),.pointer (some ⟨qw,0,none⟩),Tu (c.wl.length:Nat)⟩
def DT (x:Px):Array Value:=#[.int .u8 x.d.k,.string x.d.t,Tu x.d.b,Tu x.d.i,.bool x.d.e,Tu x.ah,.bool x.st,Tu x.nd]
structure ST (own:Nat->Nat) (W:World) (g N gs qh qw:Nat) (v:Value) (csh csw:List (Nat × List Nat)) (c:CS):Prop where
 en:En own W
 lab:own g=2
 blk:W.heap[g]?=some (.cells (FK (pY qh qw c) N gs c.pr.bl v c.pr.en) 70 (0,0))
 ar:W.ownsRow 0 64 3 v c.pr.ar.length (ap qr c.pr.ar.reverse)/\∀k,v.ownBlock=some k->own k=2
 sk:SK own 1 W gs c.pr.sk
 rh:gh own 0 W qh csh
 hl:fl csh=c.hl
 rw:gh own 1 W qw csw
 wl:fl csw=c.wl
 pm:∀b x,c.m b=some x->W.heap[b]?=some (.cells (DT x) 137 (0,0))/\own b=5
def T9 (own:Nat->Nat) (W w':World) (g N:Nat) (c':CS):Prop:=∃own' gs qh qw v csh csw,ST own' w' g N gs qh qw v csh csw c'/\Fz own own' W w'
section
variable {own:Nat->Nat} {W:World} {g N gs qh qw:Nat} {v:Value} {csh csw:List (Nat × List Nat)} {c:CS}
def ST.lt (h:ST own W g N gs qh qw v csh csw c):g<W.heap.size:=ai h.blk
def ST.fz (h:ST own W g N gs qh qw v csh csw c) (k:Nat):W.frozen? (Tw g k)=false:=aj h.blk
def ST.frp {P:Nat->Prop}{own':Nat->Nat}{w':World}(h:ST own W g N gs qh qw v csh csw c) (u:cA P own own' W w') (Y:Nf own' w') (Z:∀i,P i->i=0->False) (Q:¬P 1) (I:¬P 2) (O:¬P 5) (J:∀i,Lr 0 i->¬P i) (M:∀i,Lr 1 i->¬P i):ST own' w' g N gs qh qw v csh csw c:=by
 refine⟨h.en.frp (λe=>Z 0 e rfl) Y u,(u.old g h.lt (by rw[h.lab];exact I)).trans h.lab,(u.block g h.lt (by rw[h.lab];exact I)).trans h.blk,vg u I h.ar,h.sk.keptP u Q,h.rh.kept u J,h.hl,h.rw.kept u M,h.wl,λb x S=>?_⟩;obtain⟨G,H⟩:=h.pm b x S;exact⟨(u.block b (ai G) (by rw[H];exact O)).trans G,(u.old b (ai G) (by rw[H];exact O)).trans H⟩
def ST.below (h:ST own W g N gs qh qw v csh csw c) (u:Below W.heap.size W w'):ST own w' g N gs qh qw v csh csw c:=
 h.frp (P:=λ_=>False) (cA.of_below u) (h.en.nf.below u.size) (λ_ h _=>h) (λh=>h) (λh=>h) (λh=>h) (λ_ _ h=>h) (λ_ _ h=>h)
def ST.c0 (h:ST own W g N gs qh qw v csh csw c):W.cell? (Tw g 0)=some (.bool false):=aa h.blk rfl
def ST.c1 (h:ST own W g N gs qh qw v csh csw c):W.cell? (Tw g 1)=some (Tu (c.op:Nat)):=aa h.blk rfl
def ST.c2 (h:ST own W g N gs qh qw v csh csw c):W.cell? (Tw g 2)=some (Tu c.tot):=aa h.blk rfl
def ST.c3 (h:ST own W g N gs qh qw v csh csw c):W.cell? (Tw g 3)=some (.pointer (some (Tw qh 0))):=aa h.blk rfl
def ST.c4 (h:ST own W g N gs qh qw v csh csw c):W.cell? (Tw g 4)=some (Tu (c.hl.length:Nat)):=aa h.blk rfl
def ST.c5 (h:ST own W g N gs qh qw v csh csw c):W.cell? (Tw g 5)=some (.pointer (some (Tw qw 0))):=aa h.blk rfl
def ST.c6 (h:ST own W g N gs qh qw v csh csw c):W.cell? (Tw g 6)=some (Tu (c.wl.length:Nat)):=aa h.blk rfl
def ST.c10 (h:ST own W g N gs qh qw v csh csw c):W.cell? (Tw g 10)=some (.bool c.pr.bl.ev):=aa h.blk rfl
def ST.setg (h:ST own W g N gs qh qw v csh csw c) (k:Nat) (x:Value) {c':CS}(hc:(FK (pY qh qw c) N gs c.pr.bl v c.pr.en).setIfInBounds k x=FK (pY qh qw c') N gs c.pr.bl v c.pr.en) (Y:c'.hl=fl csh) (Z:c'.wl=fl csw) (h3:c'.m=c.m) (G:c'.pr=c.pr):ST own (W.setCell ⟨g,k,none⟩ x) g N gs qh qw v csh csw c':=by
 have u:cA (λi=>i=2) own own W (W.setCell ⟨g,k,none⟩ x):=cA.set h.lab k x;have O:=Kp.set W g k x;have hn:Nf own (W.setCell ⟨g,k,none⟩ x):=h.en.nf.below O.size;have r1:=aF h.ar.1 h.blk (by decide);refine⟨h.en.frp (by omega) hn u,h.lab,?_,?_,?_,h.rh.kept u (λi H e=>by subst e;exact qm (by omega) H),Y.symm,h.rw.kept u (λi H e=>by subst e;exact qm (by omega) H),Z.symm,λb y M=>?_⟩
 ·rw[G];have:=ag h.blk k x;rw[hc]at this;exact this
 ·rw[G];exact⟨O.row h.ar.1 (λj Q S=>r1 (by rw[Q,S])),h.ar.2⟩
 ·rw[G];exact h.sk.keptP u (by omega)
 ·rw[h3]at M;obtain⟨I,J⟩:=h.pm b y M;exact⟨(u.block b (ai I) (by rw[J];omega)).trans I,J⟩
def ST.setp (h:ST own W g N gs qh qw v csh csw c) {b:Nat}{x y:Px}(Y:c.m b=some x) (k:Nat) (u:Value) (hc:(DT x).setIfInBounds k u=DT y):ST own (W.setCell ⟨b,k,none⟩ u) g N gs qh qw v csh csw { c with m:=gi c.m b y }:=by
 obtain⟨p1,O⟩:=h.pm b x Y;have H:cA (λi=>i=5) own own W (W.setCell ⟨b,k,none⟩ u):=cA.set O k u;have Z:=Kp.set W b k u;have hn:Nf own (W.setCell ⟨b,k,none⟩ u):=h.en.nf.below Z.size;refine⟨h.en.frp (by omega) hn H,h.lab,(H.block g h.lt (by rw[h.lab];omega)).trans h.blk,vg H (by omega) h.ar,h.sk.keptP H (by omega),h.rh.kept H (λi J e=>by subst e;unfold Lr at J;omega),h.hl,h.rw.kept H (λi J e=>by subst e;unfold Lr at J;omega),h.wl,λG z I=>?_⟩
 by_cases e:G=b
 ·subst e
  have hz:z=y:=by
   have:gi c.m G y G=some z:=I;rw[cH]at this;cases this;rfl
  subst hz;refine⟨?_,O⟩;have:=ag p1 k u;rw[hc]at this;exact this
 ·have M:c.m G=some z:=by
   have:gi c.m b y G=some z:=I;rw[fX _ _ e]at this;exact this
  obtain⟨Q,S⟩:=h.pm G z M;exact⟨az Q e _,S⟩
def ST.newp (h:ST own W g N gs qh qw v csh csw c) (x:Px) {W':World}(u:Below W.heap.size W W') {nb:Nat}(ab:W.heap.size<=nb) (S:W'.heap[nb]?=some (.cells (DT x) 137 (0,0))):∃own',ST own' W' g N gs qh qw v csh csw { c with m:=gi c.m nb x }/\Fz own own' W W'/\own' nb=5:=by
 have aa:=ai S;have H:cA (λi=>i=5) own (λk=>if k=nb then 5 else own k) W W':=⟨u.os,u.tape,u.output,u.size,λk I _=>u.block k I,λk I _=>Eq (by omega)⟩
 have hn:Nf (λk=>if k=nb then 5 else own k) W':=λk I=>by
  show(if k=nb then 5 else own k)=0;have:=u.size;rw[Eq (by omega)];exact h.en.nf k (by omega)
 have Z:g≠nb:=by have:=h.lt;omega
 refine⟨λk=>if k=nb then 5 else own k,⟨h.en.frp (by omega) hn H,(Eq Z).trans h.lab,(u.block g h.lt).trans h.blk,vg H (by omega) h.ar,h.sk.keptP H (by omega),h.rh.kept H (λi M e=>by subst e;unfold Lr at M;omega),h.hl,h.rw.kept H (λi M e=>by subst e;unfold Lr at M;omega),h.wl,λG z J=>?_⟩,?_,Or rfl⟩
 ·by_cases e:G=nb
  ·subst e
   have hz:z=x:=by
    have:gi c.m G x G=some z:=J;rw[cH]at this;cases this;rfl
   subst hz;exact⟨S,Or rfl⟩
  ·have O:c.m G=some z:=by
    have:gi c.m nb x G=some z:=J;rw[fX _ _ e]at this;exact this
   obtain⟨Q,Y⟩:=h.pm G z O;exact⟨(u.block G (ai Q)).trans Q,(Eq e).trans Y⟩
 ·exact⟨u.os,u.tape,u.output,u.size,λk I e=>⟨u.block k I,(Eq (by omega)).trans e⟩⟩
def ST.rowH (h:ST own W g N gs qh qw v csh csw c) {W1:World}{l:List Nat}(ha:RA own 0 W W1 qh l) {n:Int}(hn:n=(l.length:Nat)):T9 own W (W1.setCell ⟨g,4,none⟩ (Tu n)) g N { c with hl:=l }:=by
 subst hn;obtain⟨own',cs,k1,G,k3,k4⟩:=ha;have u:∀i,Lr 0 i->i≠0/\i≠1/\i≠2/\i≠5/\¬Lr 1 i:=λi O=>by unfold Lr at *;omega
 have I:own' g=2:=(G.old g h.lt (by rw[h.lab];exact λe=>(u _ e).2.2.1 rfl)).trans h.lab;have H:W1.heap[g]?=some (.cells (FK (pY qh qw c) N gs c.pr.bl v c.pr.en) 70 (0,0)):=(G.block g h.lt (by rw[h.lab];exact λe=>(u _ e).2.2.1 rfl)).trans h.blk;have M:cA (λi=>i=2) own' own' W1 (W1.setCell ⟨g,4,none⟩ (Tu (l.length:Nat))):=cA.set I 4 _;have hk:=Kp.set W1 g 4 (Tu (l.length:Nat));have J:=vg G (λe=>(u 2 e).2.2.1 rfl) h.ar;have r1:=aF J.1 H (by decide);have Y:Nf own' (W1.setCell ⟨g,4,none⟩ (Tu (l.length:Nat))):=k1.below hk.size;refine⟨own',gs,qh,qw,v,cs,csw,⟨(h.en.frp (λe=>(u _ e).1 rfl) k1 G).frp (by omega) Y M,I,ag H 4 _,⟨hk.row J.1 (λj e1 u=>r1 (by rw[e1,u])),J.2⟩,(h.sk.keptP G (λe=>(u 1 e).2.1 rfl)).keptP M (by omega),k3.kept M (λi O e=>by subst e;exact qm (by omega) O),k4,(h.rw.kept G (λi O e=>(u i e).2.2.2.2 O)).kept M (λi O e=>by subst e;exact qm (by omega) O),h.wl,λb x hb=>?_⟩,(G.fz (λe=>(u 0 e).1 rfl)).trans (M.fz (by omega))⟩;obtain⟨Q,S⟩:=h.pm b x hb;have Z:=(G.block b (ai Q) (by rw[S];exact λe=>(u _ e).2.2.2.1 rfl)).trans Q;have b2:=(G.old b (ai Q) (by rw[S];exact λe=>(u _ e).2.2.2.1 rfl)).trans S;exact⟨(M.block b (ai Z) (by rw[b2];omega)).trans Z,b2⟩
def ST.rowW (h:ST own W g N gs qh qw v csh csw c) {W1:World}{l:List Nat}(ha:RA own 1 W W1 qw l) {n:Int}(hn:n=(l.length:Nat)):T9 own W (W1.setCell ⟨g,6,none⟩ (Tu n)) g N { c with wl:=l }:=by
 subst hn;obtain⟨own',cs,k1,G,k3,k4⟩:=ha;have u:∀i,Lr 1 i->i≠0/\i≠1/\i≠2/\i≠5/\¬Lr 0 i:=λi O=>by unfold Lr at *;omega
 have I:own' g=2:=(G.old g h.lt (by rw[h.lab];exact λe=>(u _ e).2.2.1 rfl)).trans h.lab;have H:W1.heap[g]?=some (.cells (FK (pY qh qw c) N gs c.pr.bl v c.pr.en) 70 (0,0)):=(G.block g h.lt (by rw[h.lab];exact λe=>(u _ e).2.2.1 rfl)).trans h.blk;have M:cA (λi=>i=2) own' own' W1 (W1.setCell ⟨g,6,none⟩ (Tu (l.length:Nat))):=cA.set I 6 _;have hk:=Kp.set W1 g 6 (Tu (l.length:Nat));have J:=vg G (λe=>(u 2 e).2.2.1 rfl) h.ar;have r1:=aF J.1 H (by decide);have Y:Nf own' (W1.setCell ⟨g,6,none⟩ (Tu (l.length:Nat))):=k1.below hk.size;refine⟨own',gs,qh,qw,v,csh,cs,⟨(h.en.frp (λe=>(u _ e).1 rfl) k1 G).frp (by omega) Y M,I,ag H 6 _,⟨hk.row J.1 (λj e1 u=>r1 (by rw[e1,u])),J.2⟩,(h.sk.keptP G (λe=>(u 1 e).2.1 rfl)).keptP M (by omega),(h.rh.kept G (λi O e=>(u i e).2.2.2.2 O)).kept M (λi O e=>by subst e;exact qm (by omega) O),h.hl,k3.kept M (λi O e=>by subst e;exact qm (by omega) O),k4,λb x hb=>?_⟩,(G.fz (λe=>(u 0 e).1 rfl)).trans (M.fz (by omega))⟩;obtain⟨Q,S⟩:=h.pm b x hb;have Z:=(G.block b (ai Q) (by rw[S];exact λe=>(u _ e).2.2.2.1 rfl)).trans Q;have b2:=(G.old b (ai Q) (by rw[S];exact λe=>(u _ e).2.2.2.1 rfl)).trans S;exact⟨(M.block b (ai Z) (by rw[b2];omega)).trans Z,b2⟩
def Me (own:Nat->Nat):Nat->Nat:=λk=>if own k=1\/own k=2 then own k else 0
def Ph (h:own k=1):Me own k=1:=by unfold Me;rw[Or (.inl h),h]
def Md (h:own k=2):Me own k=2:=by unfold Me;rw[Or (.inr h),h]
def FT (h:own k≠1/\own k≠2):Me own k=0:=by unfold Me;rw[Eq (by omega)]
def SK.rel {own':Nat->Nat}{s:cX}(h:SK own 1 W gs s) (I:∀k,k<W.heap.size->own k=1->own' k=1):SK own' 1 W gs s:=by
 obtain⟨tv,gv,text,M,J,G,H,O⟩:=h.ex;exact⟨I gs (ai J) h.lab,tv,gv,text,M,J,⟨G.1,λk u=>I k (G.1.lt k u).2 (G.2 k u)⟩,⟨H.1,λk u=>I k (H.1.lt k u).2 (H.2 k u)⟩,O⟩
def ST.pg (h:ST own W g N gs qh qw v csh csw c):dL (pY qh qw c) 0 W (Me own) W g gs N c.pr:=by
 refine⟨⟨λk u=>?_,h.en.tab,?_⟩,λk u=>by omega,gt _ _,RU _,h.sk.rel (λk _ e=>Ph e),⟨v,h.blk,h.ar.1,λk u=>Md (h.ar.2 k u)⟩,Md h.lab⟩
 ·exact FT (by rw[h.en.nf k u];omega)
 ·exact FT (by rw[h.en.z];omega)
def ST.unpg (h:ST own W g N gs qh qw v csh csw c) {p':Pr}{w':World}(ha:gY (pY qh qw c) 0 W (Me own) W g gs N p' w'):T9 own W w' g N { c with pr:=p' }:=by
 obtain⟨I,H,Z,a3⟩:=ha;obtain⟨v',b1,b2⟩:=H.pr;have Y:∀k,k<W.heap.size->(own k≠1/\own k≠2)->w'.heap[k]?=W.heap[k]?/\I k=0:=λk u M=>Z k u (FT M)
 have G:∀k,I k=1\/I k=2->(if k<W.heap.size/\own k≠1/\own k≠2 then own k else I k)=I k:=λk u=>by
  rw[Eq];rintro⟨h1,h2⟩;have:=(Y k h1 h2).2;omega
 have J:cA (λi=>i=1\/i=2) own (λk=>if k<W.heap.size/\own k≠1/\own k≠2 then own k else I k) W w':=by
  refine⟨H.bel.os,H.bel.tape,H.bel.output,a3,λk u M=>(Y k u (by omega)).1,λk u M=>Or ⟨u,by omega⟩⟩
 have M:Nf (λk=>if k<W.heap.size/\own k≠1/\own k≠2 then own k else I k) w':=λk u=>by
  show(if k<W.heap.size/\own k≠1/\own k≠2 then own k else I k)=0;rw[Eq (by omega)];exact H.en.nf k u
 refine⟨_,gs,qh,qw,v',csh,csw,⟨h.en.frp (by omega) M J,(G g (.inr H.lab)).trans H.lab,b1,⟨b2.1,λk u=>(G k (.inr (b2.2 k u))).trans (b2.2 k u)⟩,H.sk.rel (λk _ e=>(G k (.inl e)).trans e),h.rh.kept J (λi O e=>by unfold Lr at O;omega),h.hl,h.rw.kept J (λi O e=>by unfold Lr at O;omega),h.wl,λb x hb=>?_⟩,J.fz (by omega)⟩;obtain⟨Q,S⟩:=h.pm b x hb;exact⟨(J.block b (ai Q) (by rw[S];omega)).trans Q,(J.old b (ai Q) (by rw[S];omega)).trans S⟩
end
def qV (k:Int) (w:World):Sa 57 #[.int .u8 k] w λe w'=>Uk e (.bool (decide (k=6\/k=3)))/\w'=w:=by
 by_cases G:k=6
 ·subst G;go_enter func57,ntmps57;(go_wp2_with fail);go_ret;exact⟨rfl,rfl⟩
 ·by_cases u:k=3
  ·subst u;go_enter func57,ntmps57;(go_wp2_with fail);go_ret;exact⟨rfl,rfl⟩
  ·have e:decide (k=6\/k=3)=false:=R9 (by omega);rw[e];have H:(k==6)=false:=by simpa using G
   have I:(k==3)=false:=by simpa using u
   go_enter func57,ntmps57;(go_wp2_with fail)
   go_ret;exact⟨rfl,rfl⟩
def qy (b:Nat) (x:Px) (w:World) (u:w.heap[b]?=some (.cells (DT x) 137 (0,0))):Sa 112 #[.pointer (some (Tw b 0))] w λe w'=>Uk e (.bool (mG x.d&&!x.st))/\w'=w:=by
 have c0:w.cell? (Tw b 0)=some (.int .u8 x.d.k):=aa u rfl;have c6:w.cell? (Tw b 6)=some (.bool x.st):=aa u rfl;have HL:Hid (Sa 57 #[.int .u8 x.d.k] w λe w'=>Uk e (.bool (mG x.d))/\w'=w):=qV x.d.k w;generalize mG x.d=l at *;generalize x.st=s at *;generalize x.d.k=k at *;clear u;cases l
 ·go_enter func112,ntmps112
  go_wp2_with(go_at_call 57;refine HL.out.mono ?_;rintro e G⟨rfl,rfl⟩)
  go_ret;exact⟨rfl,rfl⟩
 ·go_enter func112,ntmps112
  go_wp2_with(go_at_call 57;refine HL.out.mono ?_;rintro e G⟨rfl,rfl⟩)
  go_ret;exact⟨rfl,rfl⟩
def oW (g b:Nat) (x:Px) (tot:Int) (w:World) (ht:w.cell? (Tw g 2)=some (Tu tot)) (u:w.heap[b]?=some (.cells (DT x) 137 (0,0))):Sa 61 #[.pointer (some (Tw g 0)),.pointer (some (Tw b 0))] w λe w'=>Uk e (Tu (x.need tot))/\Se w w':=by
 have c5:w.cell? (Tw b 5)=some (Tu x.ah):=aa u rfl;have H:w.cell? (Tw b 7)=some (Tu x.nd):=aa u rfl;have HL:=aW (qy b x w u);unfold Px.need;generalize(mG x.d&&!x.st)=l at *;generalize x.ah=a at *;generalize x.nd=n at *;clear u;cases l
 ·go_enter func61,ntmps61
  go_wp2_with(go_at_call 112;refine HL.out.mono ?_;rintro e G⟨rfl,rfl⟩)
  go_ret;exact⟨rfl,gt _ _⟩
 ·go_enter func61,ntmps61
  go_wp2_with(go_at_call 112;refine HL.out.mono ?_;rintro e G⟨rfl,rfl⟩)
  go_quiet (fail)
  (go_wp2_with fail);go_ret;exact⟨by rw[show wr (tot-a)=wrap64 (tot-a)from IntWalk.i64_left _];rfl,fB _ _⟩
def r9 (d:Dc) (hd:rt d=true) (w:World) (J:gj w):Sa 55 #[d.v] w λe w'=>Uk e (Tu ((pw d:Nat):Int))/\Below w.heap.size w w':=by
 have u:∀o,Below w.heap.size w (w.alloc o):=λo=>(gt _ _).alloc (ge _) _
 have G:=aW u;cases gu hd with
 |text t hq=>
  have Q:=(fN hq).2;have I:Hid (∀V,Sa 104 #[.string t,.string ⟨#[10]⟩] V λe w'=>Uk e (.bool (lQ t))/\w'=V):=λV=>AR t V
  have M:Hid (∀o,Sa 105 #[.string t] (w.alloc o) λe w'=>Uk e (Tu (tw t))/\Se w w'):=λo=>by
   refine(iS t (w.alloc o) (J.below (u o)) (by omega)).mono ?_;rintro e w'⟨rfl,H⟩;exact⟨rfl,(u o).trans (H.mono (u o).size)⟩
  have H:=kf t
  have e:((pw ⟨1,t,0,0,false⟩:Nat):Int)=if lQ t then 4097 else tw t:=by
   unfold pw;simp only[TU]
   split
   ·rfl
   ·omega
  rw[e];generalize lQ t=f at *;clear e H u J;dsimp only[Dc.v]
  cases f
  ·go_enter func55,ntmps55
   go_wp2_with(first|(go_at_call 104;refine(I.out _).mono ?_;rintro e O⟨rfl,rfl⟩)|(go_at_call 105;refine(M.out _).mono ?_;rintro e w2⟨rfl,hb2⟩))
   go_ret;exact⟨by simp,hb2⟩
  ·go_enter func55,ntmps55
   go_wp2_with(first|(go_at_call 104;refine(I.out _).mono ?_;rintro e O⟨rfl,rfl⟩))
   go_ret;exact⟨by simp,G.out _⟩
 |brk m hq=>
  have e:((pw ⟨3,bE,m,0,false⟩:Nat):Int)=m:=by
   have:=im hq;simp[pw];omega
  rw[e];clear u e;dsimp only[Dc.v];go_enter func55,ntmps55;(go_wp2_with fail);go_ret;exact⟨rfl,G.out _⟩
 |beg m e hq=>
  have e:((pw ⟨6,bE,0,m,e⟩:Nat):Int)=0:=by simp[pw]
  rw[e];clear u e;dsimp only[Dc.v];go_enter func55,ntmps55;(go_wp2_with fail);go_ret;exact⟨rfl,G.out _⟩
 |blank=>
  clear u;dsimp only[Dc.v];go_enter func55,ntmps55;(go_wp2_with fail);go_ret;exact⟨rfl,G.out _⟩
 |hard=>
  clear u;dsimp only[Dc.v];go_enter func55,ntmps55;(go_wp2_with fail);go_ret;exact⟨rfl,G.out _⟩
 |empty=>
  clear u;dsimp only[Dc.v];go_enter func55,ntmps55;(go_wp2_with fail);go_ret;exact⟨rfl,G.out _⟩
 | «end»=>
  clear u;dsimp only[Dc.v];go_enter func55,ntmps55;(go_wp2_with fail);go_ret;exact⟨rfl,G.out _⟩
set_option maxRecDepth 100000 in
def oG (d:Dc) (ht:d.t.size<=9223372036854775807) (w:World):Sa 23 #[d.v] w λe w'=>Uk e (.bool (rt d))/\Below w.heap.size w w':=by
 have HC:=aW λW b (h:W.heap[b]?=some (.cells #[.int .u8 6,.string ⟨#[]⟩,Tu 0,Tu 0,.bool false,.int .u8 d.k,.string d.t,Tu d.b,Tu d.i,.bool d.e] 37 (0,0)))=>rB _ [pR,d] 2 W (AN W b d ht h) (by simp)
 have e:=Bq d;rw[<-e];have hb:=Ig [pR,d];generalize(ka [pR,d]).1=k1 at *;generalize(ka [pR,d]).2=k2 at *;clear e ht;obtain⟨Z,dt,Q,Y,S⟩:=d;dsimp only[Dc.v]at *;have M:(w.alloc (.cells #[.int .u8 Z,.string dt,Tu Q,Tu Y,.bool S] 37)).heap.size=w.heap.size+1:=RT _ _;have I:∀u G H,Below ((w.alloc u).alloc G).heap.size ((w.alloc u).alloc G) H->Below w.heap.size w H:=λu G H h=>(((gt _ w).alloc (ge _) u).alloc (by rw[RT];omega) G).trans (h.mono (by rw[RT,RT];omega))
 have O:=aW I;clear I;go_enter func23,ntmps23
 go_wp2_with(go_at_call 54;refine(HC.out _ _ (by rw[<-M];exact ak _ _)).mono ?_;rintro e H⟨rfl,J⟩)
 go_ret;exact⟨by simp[bne,Ub],O.out _ _ _ J⟩
def lK (g:Nat) (b:Bool) (w:World) (h:w.cell? (Tw g 0)=some (.bool b)):Sa 22 #[.pointer (some (Tw g 0))] w λe w'=>Uk e (Tu (if b then 4 else 0))/\w'=w:=by
 cases b
 ·go_enter func22,ntmps22;(go_wp2_with fail)
  go_ret;exact⟨rfl,rfl⟩
 ·go_enter func22,ntmps22;(go_wp2_with fail)
  go_ret;exact⟨rfl,rfl⟩
def qH (g:Nat) (n:Int) (w:World) (h:w.cell? (Tw g 4)=some (Tu n)):Sa 9 #[.pointer (some (Tw g 0))] w λe w'=>Uk e (Tu n)/\w'=w:=by
 go_enter func9,ntmps9;(go_wp2_with fail)
 go_ret;exact⟨rfl,rfl⟩
def fE {B:Nat}{W V:World}{m:Nat}(h:Below B W V):Below B W (V.drewN m):=below_drewN h m
section
variable {own:Nat->Nat} {W:World} {g N gs qh qw:Nat} {v:Value} {csh csw:List (Nat × List Nat)} {c:CS}
def B4 (h:ST own W g N gs qh qw v csh csw c) {b:Nat}{x:Px}(Q:c.m b=some x) {n:Nat}(hn:x.need c.tot=(n:Nat)) (Z:n<=1000000000000000) {U:Nat}(hp:Bp c.pr U) (hU:U<=2147483647) (hN:N<=4096) :
  Sa 59 #[.pointer (some (Tw g 0)),.pointer (some (Tw b 0))] W λe w'=>Uk e (.bool (uq N c.pr x.d x.st n))/\Se W w':=by
 have HW:Hid (∀V,Se W V->Sa 112 #[.pointer (some (Tw b 0))] V λe w'=>Uk e (.bool (mG x.d&&!x.st))/\∃m,w'=V.drewN m):=λV H=>by
  refine(qy b x V ((h.below H).pm b x Q).1).mono ?_;rintro e w'⟨rfl,rfl⟩;exact⟨rfl,0,rfl⟩
 have HN:Hid (∀V,Se W V->Sa 61 #[.pointer (some (Tw g 0)),.pointer (some (Tw b 0))] V λe w'=>Uk e (Tu (n:Nat))/\Se W w'):=λV H=>by
  have:=oW g b x c.tot V (h.below H).c2 ((h.below H).pm b x Q).1;rw[hn]at this;refine this.mono ?_;rintro e w'⟨rfl,G⟩;exact⟨rfl,H.trans (G.mono H.size)⟩
 have O:Hid (∀V,Se W V->Sa 113 #[.pointer (some (Tw g 7)),Tu (n:Nat)] V λe w'=>Uk e (.bool (c.pr.fits N n))/\Se W w'/\w'.cell? (Tw b 0)=some (.int .u8 x.d.k)/\w'.cell? (Tw g 10)=some (.bool c.pr.bl.ev)):=λV H=>by
  refine(lT (h.below H).pg hp hU n Z hN).mono ?_;rintro e w'⟨rfl,G⟩;have S:=H.trans (G.mono H.size);exact⟨rfl,S,aa ((h.below S).pm b x Q).1 rfl,(h.below S).c10⟩
 have HG:=aW λV (H:Se W V)=>jX (h.below H).pg
 have I:Hid (∀V m,Se W V->Se W (V.drewN m)):=λV m H=>fE H
 unfold uq;rw[show decide (x.d.k=6\/x.d.k=3)=mG x.d from rfl];have e3:decide (x.d.k=3)=(x.d.k==3):=by rw[Ub]
 rw[e3];generalize(mG x.d&&!x.st)=wv at *;generalize x.d.k=k at *;generalize c.pr.fits N n=f at *;generalize c.pr.bl.ev=ev at *;generalize c.pr.sk.fresh=fr at *;clear h Q hp e3 hn;cases wv
 ·go_enter func59,ntmps59;(go_wp2_with fail)
  go_quiet ((go_at_call 112;exact Calls.quiet_of (HW.out _ (I.out _ _ (gt _ _)))))
  (go_wp2_with fail);go_ret;exact⟨by simp,fB _ _⟩
 ·cases f
  ·go_enter func59,ntmps59;(go_wp2_with fail)
   go_region_held3 (λw'=>Se W w') (first|assumption|exact I.out _ _ (gt _ _)|exact(gt _ _).drew|go_keep) (first|(go_at_call 112;refine(HW.out _ (by first|assumption|exact(gt _ _).drew|exact gt _ _)).mono ?_;rintro e Y⟨rfl,J,rfl⟩;have M:=fE (m:=J) (by first|assumption|exact(gt W.heap.size W).drew|exact gt W.heap.size W))|(go_at_call 61;refine(HN.out _ (by first|assumption|exact I.out _ _ (gt _ _)|exact(gt _ _).drew)).mono ?_;rintro e w2⟨rfl,G⟩)|(go_at_call 113;refine(O.out _ (by first|assumption|exact I.out _ _ (gt _ _)|exact(gt _ _).drew)).mono ?_;rintro e w3⟨rfl,hb3,y1,y2⟩))
   all_goals(
    have u:=aW hb3;clear hb3;(go_wp2_with fail);go_ret;exact⟨by simp,u.out⟩)
  ·by_cases h3:k=3
   ·subst h3;cases fr
    ·go_enter func59,ntmps59;(go_wp2_with fail)
     go_region_held3 (λw'=>Se W w') (first|assumption|exact I.out _ _ (gt _ _)|exact(gt _ _).drew|go_keep) (first|(go_at_call 112;refine(HW.out _ (by first|assumption|exact(gt _ _).drew|exact gt _ _)).mono ?_;rintro e Y⟨rfl,J,rfl⟩;have M:=fE (m:=J) (by first|assumption|exact(gt W.heap.size W).drew|exact gt W.heap.size W))|(go_at_call 61;refine(HN.out _ (by first|assumption|exact I.out _ _ (gt _ _)|exact(gt _ _).drew)).mono ?_;rintro e w2⟨rfl,G⟩)|(go_at_call 113;refine(O.out _ (by first|assumption|exact I.out _ _ (gt _ _)|exact(gt _ _).drew)).mono ?_;rintro e w3⟨rfl,hb3,y1,y2⟩))
     all_goals(
      have u:=aW hb3;clear hb3;(go_wp2_with fail);refine(HG.out _ u.out).mono ?_;rintro e w4⟨rfl,rfl⟩;(go_wp2_with fail);go_ret;exact⟨by simp,u.out⟩)
    ·go_enter func59,ntmps59;(go_wp2_with fail)
     go_region_held3 (λw'=>Se W w') (first|assumption|exact I.out _ _ (gt _ _)|exact(gt _ _).drew|go_keep) (first|(go_at_call 112;refine(HW.out _ (by first|assumption|exact(gt _ _).drew|exact gt _ _)).mono ?_;rintro e Y⟨rfl,J,rfl⟩;have M:=fE (m:=J) (by first|assumption|exact(gt W.heap.size W).drew|exact gt W.heap.size W))|(go_at_call 61;refine(HN.out _ (by first|assumption|exact I.out _ _ (gt _ _)|exact(gt _ _).drew)).mono ?_;rintro e w2⟨rfl,G⟩)|(go_at_call 113;refine(O.out _ (by first|assumption|exact I.out _ _ (gt _ _)|exact(gt _ _).drew)).mono ?_;rintro e w3⟨rfl,hb3,y1,y2⟩))
     all_goals(
      have u:=aW hb3;clear hb3;(go_wp2_with fail);refine(HG.out _ u.out).mono ?_;rintro e w4⟨rfl,rfl⟩;(go_wp2_with fail);go_ret;exact⟨by simp,u.out⟩)
   ·have hk:(k==3)=false:=by simpa using h3
    go_enter func59,ntmps59;(go_wp2_with fail)
    go_region_held3 (λw'=>Se W w') (first|assumption|exact I.out _ _ (gt _ _)|exact(gt _ _).drew|go_keep) (first|(go_at_call 112;refine(HW.out _ (by first|assumption|exact(gt _ _).drew|exact gt _ _)).mono ?_;rintro e Y⟨rfl,J,rfl⟩;have M:=fE (m:=J) (by first|assumption|exact(gt W.heap.size W).drew|exact gt W.heap.size W))|(go_at_call 61;refine(HN.out _ (by first|assumption|exact I.out _ _ (gt _ _)|exact(gt _ _).drew)).mono ?_;rintro e w2⟨rfl,G⟩)|(go_at_call 113;refine(O.out _ (by first|assumption|exact I.out _ _ (gt _ _)|exact(gt _ _).drew)).mono ?_;rintro e w3⟨rfl,hb3,y1,y2⟩))
    all_goals(
     have u:=aW hb3;clear hb3;(go_wp2_with fail);go_ret;exact⟨by simp[hk],u.out⟩)
def oK (h:ST own W g N gs qh qw v csh csw c) {b:Nat}{x:Px}(G:c.m b=some x) {l:List Nat}(hl:c.wl=l++[b]) (hw:c.wl.length<=1000000000) :
  Sa 64 #[.pointer (some (Tw g 0)),.pointer (some (Tw b 0))] W λe w'=>Uk e (.tuple #[])/\T9 own W w' g N { c with m:=gi c.m b (x.settle c.tot),wl:=l }:=by
 have HN:Hid (Sa 61 #[.pointer (some (Tw g 0)),.pointer (some (Tw b 0))] W λe w'=>Uk e (Tu (x.need c.tot))/\Hid (Se W w')/\(w'.cell? (Tw b 7)=some (Tu x.nd)/\w'.cell? (Tw b 6)=some (.bool x.st))/\w'.frozen? (Tw b 7)=false/\w'.frozen? (Tw b 6)=false):=by
  refine(oW g b x c.tot W h.c2 (h.pm b x G).1).mono ?_;rintro e w'⟨rfl,J⟩;have H:=((h.below J).pm b x G).1;exact⟨rfl,J,⟨aa H rfl,aa H rfl⟩,aj H,aj H⟩
 have S:Hid (∀V,Se W V->Sa 122 #[.pointer (some (Tw g 5))] ((V.setCell ⟨b,7,none⟩ (Tu (x.need c.tot))).setCell ⟨b,6,none⟩ (.bool true)) λe w'=>Uk e (.tuple #[])/\T9 own W w' g N { c with m:=gi c.m b (x.settle c.tot),wl:=l }):=λV O=>by
  have Y:=h.below O;have Z:=Y.setp (y:=⟨x.d,x.ah,x.st,x.need c.tot⟩) G 7 (Tu (x.need c.tot)) rfl;have h2:=Z.setp (y:=x.settle c.tot) (cH _ _ _) 6 (.bool true) rfl
  have u:ST own ((V.setCell ⟨b,7,none⟩ (Tu (x.need c.tot))).setCell ⟨b,6,none⟩ (.bool true)) g N gs qh qw v csh csw { c with m:=gi c.m b (x.settle c.tot) }:=by
   have e:gi (gi c.m b ⟨x.d,x.ah,x.st,x.need c.tot⟩) b (x.settle c.tot)=gi c.m b (x.settle c.tot):=by
    funext k;unfold gi;split<;>rfl
   have I:ST own ((V.setCell ⟨b,7,none⟩ (Tu (x.need c.tot))).setCell ⟨b,6,none⟩ (.bool true)) g N gs qh qw v csh csw { c with m:=gi (gi c.m b ⟨x.d,x.ah,x.st,x.need c.tot⟩) b (x.settle c.tot) }:=h2;rw[e]at I;exact I
  have M:fl csw=l++[b]:=h.wl.trans hl;refine(vK u.rw u.en.nf u.lab c.wl.length hw u.c5 u.c6 (u.fz 6) M).mono ?_;rintro e w'⟨rfl,W1,rfl,ha⟩;refine⟨rfl,?_⟩;obtain⟨own',gs',qh',qw',v',csh',csw',k1,k2⟩:=u.rowW ha (n:=(c.wl.length:Int)-1) (by rw[hl];simp);have z1:Fz own own W V:=Fz.of_below O;obtain⟨H,p2⟩:=h.pm b x G;have z2:Fz own own V ((V.setCell ⟨b,7,none⟩ (Tu (x.need c.tot))).setCell ⟨b,6,none⟩ (.bool true)):=((cA.set (P:=λi=>i=5) p2 7 _).trans (cA.set (P:=λi=>i=5) p2 6 _)).fz (by omega);exact⟨own',gs',qh',qw',v',csh',csw',k1,(z1.trans z2).trans k2⟩
 have ab:b≠g:=λe=>by
  have:=(h.pm b x G).2;rw[e,h.lab]at this;cases this
 clear h G hl;generalize x.need c.tot=n at *;go_enter func64,ntmps64;(go_wp2_with fail);refine HN.out.mono ?_;rintro e w1⟨rfl,Q,⟨y1,y2⟩,y3,y4⟩
 go_wp2_with(go_at_call 122;refine(S.out _ Q.out).mono ?_;rintro e w2⟨rfl,hT⟩)
 go_end0;exact⟨rfl,hT⟩
end
section
variable {own:Nat->Nat} {W V:World} {g N:Nat} {c c':CS}
def T9.step {u:Nat->Nat}{w':World}(G:Fz own u W V) (k:T9 u V w' g N c'):T9 own W w' g N c':=by
 obtain⟨o,gs,qh,qw,v,csh,csw,H,I⟩:=k;exact⟨o,gs,qh,qw,v,csh,csw,H,G.trans I⟩
def T9.below (h:T9 own W V g N c) (u:Below V.heap.size V w'):T9 own W w' g N c:=by
 obtain⟨o,gs,qh,qw,v,csh,csw,G,H⟩:=h;exact⟨o,gs,qh,qw,v,csh,csw,G.below u,H.trans (Fz.of_below u)⟩
def ST.t9 {gs qh qw:Nat}{v:Value}{csh csw:List (Nat × List Nat)}(h:ST own W g N gs qh qw v csh csw c):T9 own W W g N c:=⟨own,gs,qh,qw,v,csh,csw,h,Fz.refl _ _⟩
def NN (h:T9 own W V g N c):Sa 63 #[.pointer (some (Tw g 5))] V λe w'=>Uk e (.tuple #[.pointer (pa c.wl.getLast?),.bool (!c.wl.isEmpty)])/\T9 own W w' g N c:=by
 have G:=h;obtain⟨o,gs,qh,qw,v,csh,csw,u,H⟩:=h;have:=Gi u.rw u.c5;rw[u.wl]at this;refine this.mono ?_;rintro e w'⟨rfl,hb⟩;exact⟨rfl,G.below hb⟩
def KV (h:T9 own W V g N c):Sa 58 #[.pointer (some (Tw g 3))] V λe w'=>Uk e (.tuple #[.pointer (pa c.hl.head?),.bool (!c.hl.isEmpty)])/\T9 own W w' g N c:=by
 have G:=h;obtain⟨o,gs,qh,qw,v,csh,csw,u,H⟩:=h;have:=lV u.rh u.c3;rw[u.hl]at this;refine this.mono ?_;rintro e w'⟨rfl,hb⟩;exact⟨rfl,G.below hb⟩
def rY (h:T9 own W V g N c) {b:Nat}{x:Px}(u:c.m b=some x) {l:List Nat}(hl:c.wl=l++[b]) (G:c.wl.length<=1000000000) :
  Sa 64 #[.pointer (some (Tw g 0)),.pointer (some (Tw b 0))] V λe w'=>Uk e (.tuple #[])/\T9 own W w' g N { c with m:=gi c.m b (x.settle c.tot),wl:=l }:=by
 obtain⟨o,gs,qh,qw,v,csh,csw,H,I⟩:=h;refine(oK H u hl G).mono ?_;rintro e w'⟨rfl,ha⟩;exact⟨rfl,ha.step I⟩
def T9.piece (h:T9 own W V g N c) {b:Nat}{x:Px}(u:c.m b=some x):V.heap[b]?=some (.cells (DT x) 137 (0,0)):=by
 obtain⟨o,gs,qh,qw,v,csh,csw,G,H⟩:=h;exact(G.pm b x u).1
def T9.cc (h:T9 own W V g N c):V.cell? (Tw g 0)=some (.bool false)/\V.cell? (Tw g 1)=some (Tu (c.op:Nat))/\V.cell? (Tw g 2)=some (Tu c.tot)/\V.cell? (Tw g 4)=some (Tu (c.hl.length:Nat))/\V.cell? (Tw g 6)=some (Tu (c.wl.length:Nat))/\(∀k,V.frozen? (Tw g k)=false)/\g<V.heap.size:=by
 obtain⟨o,gs,qh,qw,v,csh,csw,u,G⟩:=h;exact⟨u.c0,u.c1,u.c2,u.c4,u.c6,u.fz,u.lt⟩
end
def NX (rl:List Nat):rl.reverse.getLast?=rl.head?:=by rw[List.getLast?_reverse]
def NT (rl:List Nat):rl.reverse.isEmpty=rl.isEmpty:=by cases rl<;>simp
def Jh {m:Pm}{b:Nat}{x y:Px}(I:m b=some x) (J:y.d=x.d) {rl:List Nat}(h:∀k∈rl,∃z,m k=some z/\(z.d.k=6\/z.d.k=3)):∀k∈rl,∃z,gi m b y k=some z/\(z.d.k=6\/z.d.k=3):=by
 intro k H;obtain⟨z,u,G⟩:=h k H
 by_cases e:k=b
 ·subst e;rw[I]at u;cases u;exact⟨y,cH _ _ _,by rw[J];exact G⟩
 ·exact⟨z,by rw[fX _ _ e];exact u,G⟩
section
variable {own:Nat->Nat} {W:World} {g N:Nat} {c:CS}
def Cd (h:T9 own W W g N c) (e:Int) (u:e=1\/e=2\/e=6):Sa 27 #[.pointer (some (Tw g 0)),.int .u8 e] W λx w'=>Uk x (.tuple #[])/\w'=W:=by
 clear h
 rcases u with rfl|rfl|rfl
 ·go_enter func27,ntmps27;(go_wp2_with fail)
  go_step3
  go_wp2_with fail
  (try rw[TR])
  (try simp only[Exit.inBlock,Exit.then])
  refine R0 (Vo rfl _ _ _) rfl ?_;exact⟨rfl,rfl⟩
 ·go_enter func27,ntmps27;(go_wp2_with fail)
  go_step3
  go_wp2_with fail
  (try rw[TR])
  (try simp only[Exit.inBlock,Exit.then])
  refine R0 (Vo rfl _ _ _) rfl ?_;exact⟨rfl,rfl⟩
 ·go_enter func27,ntmps27;(go_wp2_with fail)
  go_step3
  go_wp2_with fail
  (try rw[TR])
  (try simp only[Exit.inBlock,Exit.then])
  refine R0 (Vo rfl _ _ _) rfl ?_;exact⟨rfl,rfl⟩
def xU (u:List Nat) (h:T9 own W W g N c) (ad:c.wl=u.reverse) (hm:∀b∈u,∃x,c.m b=some x/\(x.d.k=6\/x.d.k=3)) (ae:u.length<=1000000000) (e:Int) (he:e=3\/e=4\/e=5\/e=7) :
  Sa 27 #[.pointer (some (Tw g 0)),.int .u8 e] W λx w'=>Uk x (.tuple #[])/\T9 own W w' g N { c with m:=(sett c.tot e c.m u).1,wl:=(sett c.tot e c.m u).2.reverse }:=by
 obtain⟨F,hF⟩:=ea (sett c.tot e c.m u);rw[hF]
 have ab:Hid (T9 own W W g N { c with m:=c.m,wl:=u.reverse }/\sett c.tot e c.m u=F/\(∀b∈u,∃x,c.m b=some x/\(x.d.k=6\/x.d.k=3))/\u.length<=1000000000):=by
  refine⟨?_,hF,hm,ae⟩;rw[<-ad];exact h
 have q1:(e==1)=false:=by rcases he with rfl|rfl|rfl|rfl<;>rfl
 have q2:(e==2)=false:=by rcases he with rfl|rfl|rfl|rfl<;>rfl
 have q6:(e==6)=false:=by rcases he with rfl|rfl|rfl|rfl<;>rfl
 have ac:Hid (∀(V:World) (m:Pm) (rl:List Nat),T9 own W V g N { c with m:=m,wl:=rl.reverse }->Sa 63 #[.pointer (some (Tw g 5))] V λx w'=>Uk x (.tuple #[.pointer (pa rl.head?),.bool (!rl.isEmpty)])/\T9 own W w' g N { c with m:=m,wl:=rl.reverse }):=λV m rl hV=>by
  have:=NN hV;simp only[NX,NT]at this;exact this
 have HS:Hid (∀(V:World) (m:Pm) (b:Nat) (x:Px) (r:List Nat),T9 own W V g N { c with m:=m,wl:=(b :: r).reverse }->m b=some x->(b :: r).length<=1000000000->Sa 64 #[.pointer (some (Tw g 0)),.pointer (some (Tw b 0))] V λy w'=>Uk y (.tuple #[])/\T9 own W w' g N { c with m:=gi m b (x.settle c.tot),wl:=r.reverse }):=λV m b x r hV hb hl=>rY hV hb (by simp) (by rw[TC];exact hl)
 clear h ad hm hF;go_enter func27,ntmps27;(go_wp2_with fail)
 go_step3
 go_wp2_with fail
 go_step3
 go_wp2_with(go_at_call 63;refine(ac.out _ _ _ ab.out.1).mono ?_;rintro x w1⟨rfl,h1⟩)
 have af:Hid (T9 own W w1 g N { c with m:=c.m,wl:=u.reverse }/\sett c.tot e c.m u=F/\(∀b∈u,∃x,c.m b=some x/\(x.d.k=6\/x.d.k=3))/\u.length<=1000000000):=⟨h1,ab.out.2⟩;clear h1
 go_loopw [4,5] (λs4 s5 wr=>∃(m:Pm) (rl:List Nat),s4=.pointer (pa rl.head?)/\s5=.bool (!rl.isEmpty)/\Hid (T9 own W wr g N { c with m:=m,wl:=rl.reverse }/\sett c.tot e m rl=F/\(∀b∈rl,∃x,m b=some x/\(x.d.k=6\/x.d.k=3))/\rl.length<=1000000000)) (λ_ _ wr=>dD wr g 6)
 case atStart=>exact⟨c.m,u,rfl,rfl,af.out⟩
 case round=>
  obtain⟨m,rl,rfl,rfl,HI⟩:=hrel;cases rl with
  |nil=>
   have S:Hid (T9 own W wr g N { c with m:=F.1,wl:=F.2.reverse }):=by
    obtain⟨H,J,_⟩:=HI.out;rw[<-J];exact H
   clear HI;(go_wp2_with fail)
   (first|go_end0|(rw[Ud];go_end0)|(simp only[Ud,WC,Exit.inBlock,Exit.then];go_end0)|(trace_state;fail))
   exact⟨rfl,S.out⟩
  |cons b r=>
   obtain⟨H,J,Y,O⟩:=HI.out;obtain⟨x,hx,hk⟩:=Y b RZ;have p0:wr.cell? (Tw b 0)=some (.int .u8 x.d.k):=aa (H.piece hx) rfl
   have G:dD wr g 6=r.length+1:=by
    have:=H.cc.2.2.2.2.1;rw[iP this];simp
   by_cases I:x.d.k=3
   ·have Q:sett c.tot e (gi m b (x.settle c.tot)) r=F:=by
     rw[<-J,sett,hx];simp only[I,TU]
    have M:=aW (HS.out wr m b x r H hx O);have S:Hid (sett c.tot e (gi m b (x.settle c.tot)) r=F/\(∀k∈r,∃z,gi m b (x.settle c.tot) k=some z/\(z.d.k=6\/z.d.k=3))/\r.length<=1000000000):=⟨Q,Jh (y:=x.settle c.tot) hx rfl (λk hk=>Y k (R1 _ hk)),by rw[List.length_cons]at O;omega⟩;have HC:=aW G;rw[I]at p0;clear HI H J Y O hk G Q I;(go_wp2_with fail);refine M.out.mono ?_;rintro y w2⟨rfl,Z⟩;have H2:=gy Z;clear Z
    go_wp2_with(go_at_call 63;refine(ac.out _ _ _ H2.out).mono ?_;rintro x3 w3⟨rfl,I⟩)
    refine⟨⟨_,r,rfl,rfl,I,S.out⟩,?_⟩;have:=I.cc.2.2.2.2.1;rw[HC.out,iP this];simp
   ·have h6:x.d.k=6:=by omega
    rw[h6]at p0
    by_cases h7:e=7
    ·subst h7
     have M:Hid (Sa 64 #[.pointer (some (Tw g 0)),.pointer (some (Tw b 0))] wr λy w'=>Uk y (.tuple #[])/\T9 own W w' g N { c with m:=F.1,wl:=F.2.reverse }):=by
      have Q:F=(gi m b (x.settle c.tot),r):=by
       rw[<-J,sett,hx];simp[I]
      rw[Q];exact HS.out wr m b x r H hx O
     clear HI H J Y O hk G I h6;(go_wp2_with fail);refine M.out.mono ?_;rintro y w2⟨rfl,Z⟩;have H2:=gy Z;clear Z;(go_wp2_with fail)
     (first|go_end0|(rw[Ud];go_end0)|(simp only[Ud,WC,Exit.inBlock,Exit.then];go_end0)|(trace_state;fail))
     exact⟨rfl,H2.out⟩
    ·have S:Hid (T9 own W wr g N { c with m:=F.1,wl:=F.2.reverse }):=by
      have Q:F=(m,b :: r):=by
       rw[<-J,sett,hx];simp[I,h7]
      rw[Q];exact H
     have q7:(e==7)=false:=by simpa using h7
     clear HI H J Y O hk G I h6;(go_wp2_with fail)
     (first|go_end0|(rw[Ud];go_end0)|(simp only[Ud,WC,Exit.inBlock,Exit.then];go_end0)|(trace_state;fail))
     exact⟨rfl,S.out⟩
def uT {V:World}(u:List Nat) (h:T9 own W V g N c) (G:c.wl=u.reverse) (S:∀b∈u,∃x,c.m b=some x/\(x.d.k=6\/x.d.k=3)) (H:u.length<=1000000000) (e:Int) (Y:1<=e/\e<=7) :
  Sa 27 #[.pointer (some (Tw g 0)),.int .u8 e] V λx w'=>Uk x (.tuple #[])/\T9 own W w' g N { c with m:=(aV c.tot e c.m u).1,wl:=(aV c.tot e c.m u).2.reverse }:=by
 obtain⟨o,gs,qh,qw,v,csh,csw,M,O⟩:=h
 by_cases J:e=1\/e=2\/e=6
 ·have I:aV c.tot e c.m u=(c.m,u):=by unfold aV;rw[Or J]
  rw[I];refine(Cd M.t9 e J).mono ?_;rintro x w'⟨rfl,rfl⟩;refine⟨rfl,?_⟩;have:T9 own W w' g N c:=⟨o,gs,qh,qw,v,csh,csw,M,O⟩;simp only;rw[<-G];exact this
 ·have I:aV c.tot e c.m u=sett c.tot e c.m u:=by unfold aV;rw[Eq J]
  rw[I];refine(xU u M.t9 G S H e (by omega)).mono ?_;rintro x w'⟨rfl,Q⟩;exact⟨rfl,Q.step O⟩
end
open Go.Lib (lastIdx lastIdx_hit lastIdx_miss lastIdx_spec)
section
variable {B g n:Nat} {W0 W:World} {N col held:Int} {fr sm em:Bool} {vo vb:Value} {out:List UInt8} {bl:List Value}
end
def Nw (S:Nat->Prop) (n:Nat):Prop:=∀k,n<=k->S k
def eS (s:S9) (T C:Nat):Prop:=∃U,Bp s.pr U/\U+fF s.wt<=T/\mD (s.pr.ar.length:Int) s.wt=some (s.dp:Int)/\s.pr.ar.length+s.wt.length<=C
def FO:∀(l:List Dc) (o o':Int),mD o l=some o'->∀d∈l,rt d=true
 |[],o,o',h=>by simp
 |d :: r,o,o',h=>by
  simp only[mD]at h
  split at h
  ·rename_i hc
   intro x u
   rcases Sm.1 u with rfl|u
   ·exact hc.1
   ·exact FO r _ _ h x u
  ·cases h
def eS.rt {s:S9}{T C:Nat}(h:eS s T C):∀d∈s.wt,Go.Proofs.YthfjlkfeeglfmaaGreatDoor.Lw.rt d=true:=by
 obtain⟨_,_,_,h,_⟩:=h;exact FO _ _ _ h
def eS.step {p:Pr}{d:Dc}{r:List Dc}{dp:Nat}{cl:Bool}{T C:Nat}(N need:Nat) (h:eS ⟨p,d :: r,dp,cl⟩ T C):(d.k=7->p.ar≠[])/\(∃U,Bp p U/\U<=T)/\p.ar.length<=C/\(d :: r).length<=C/\eS ⟨put N d need p,r,dp,cl⟩ T C:=by
 obtain⟨U,G,H,u,I⟩:=h;simp only at G H u I;have e:fF (d :: r)=ud d+fF r:=by simp[fF]
 rw[e]at H;rw[List.length_cons]at I;simp only[mD]at u
 split at u
 ·rename_i hc
  have hd:=vA (n:=N) (need:=need) hc.1 (p:=p) rfl hc.2;refine⟨λJ M=>?_,⟨U,G,by omega⟩,by omega,by rw[List.length_cons];omega,U+ud d,Fp hc.1 G,by show U+ud d+fF r<=T;omega,?_,?_⟩
  ·have:=hc.2;rw[M,J]at this;exact absurd this (by decide)
  ·show mD (((put N d need p).ar.length:Nat):Int) r=some (dp:Int);rw[hd];exact u
  ·show(put N d need p).ar.length+r.length<=_;have:cq d.k<=1:=by unfold cq;split;omega;split<;>omega
   omega
 ·cases u
end
variable {T C:Nat}{m:Pm}{tot:Int}{s:S9}{p:Pr}
section
variable {own:Nat->Nat} {W V:World} {g N:Nat} {c:CS}
def MU (h:T9 own W V g N c) {b:Nat}{x:Px}(u:c.m b=some x) {n:Nat}(M:x.need c.tot=(n:Nat)) (G:n<=1000000000000000) {U:Nat}(O:Bp c.pr U) (J:U<=2147483647) (I:N<=4096) :
  Sa 59 #[.pointer (some (Tw g 0)),.pointer (some (Tw b 0))] V λe w'=>Uk e (.bool (uq N c.pr x.d x.st n))/\T9 own W w' g N c:=by
 have H:=h;obtain⟨o,gs,qh,qw,v,csh,csw,Q,S⟩:=h;refine(B4 Q u M G O J I).mono ?_;rintro e w'⟨rfl,u⟩;exact⟨rfl,H.below u⟩
def NE (h:T9 own W V g N c) {b:Nat}{x:Px}(u:c.m b=some x) {n:Nat}(G:x.need c.tot=(n:Nat)) :
  Sa 61 #[.pointer (some (Tw g 0)),.pointer (some (Tw b 0))] V λe w'=>Uk e (Tu (n:Nat))/\T9 own W w' g N c:=by
 have:=oW g b x c.tot V h.cc.2.2.1 (h.piece u);rw[G]at this;refine this.mono ?_;rintro e w'⟨rfl,u⟩;exact⟨rfl,h.below u⟩
def NW (h:T9 own W V g N c) {U:Nat}(M:Bp c.pr U) (J:U<=2147483647) (n:Nat) (u:n<=1000000000000000) (I:N<=4096) (hl:c.pr.ar.length<=1000000000) (d:Dc) (hd:rt d=true) (H:d.k=7->c.pr.ar≠[]) :
  Sa 60 #[.pointer (some (Tw g 7)),d.v,Tu (n:Nat)] V λe w'=>Uk e (.tuple #[])/\T9 own W w' g N { c with pr:=put N d n c.pr }:=by
 obtain⟨o,gs,qh,qw,v,csh,csw,G,O⟩:=h;refine(GD G.pg M J n u I hl d hd H).mono ?_;rintro e w'⟨rfl,ha⟩;exact⟨rfl,(G.unpg ha).step O⟩
def Ec (h:T9 own W V g N c) {U:Nat}(H:Bp c.pr U) (G:U<=2147483647) :
  Sa 26 #[.pointer (some (Tw g 7))] V λe w'=>Uk e (.string ⟨c.pr.sk.out.toArray⟩)/\T9 own W w' g N { c with pr:={ c.pr with sk:=c.pr.sk.take } }:=by
 obtain⟨o,gs,qh,qw,v,csh,csw,u,I⟩:=h;refine(Ed u.pg H G).mono ?_;rintro e w'⟨rfl,ha⟩;exact⟨rfl,(u.unpg ha).step I⟩
def Nq (h:T9 own W V g N c) {b:Nat}{l:List Nat}(hl:c.hl=b :: l) (G:c.hl.length<=1000000000) :
  Sa 62 #[.pointer (some (Tw g 3))] V λe w'=>Uk e (.tuple #[])/\T9 own W w' g N { c with hl:=l }:=by
 obtain⟨o,gs,qh,qw,v,csh,csw,u,H⟩:=h;refine(sL u.rh u.en.nf u.lab c.hl.length G u.c3 u.c4 (u.fz 4) (u.hl.trans hl)).mono ?_;rintro e w'⟨rfl,W1,rfl,ha⟩;refine⟨rfl,(u.rowH ha ?_).step H⟩;rw[hl];simp
def Kb (h:T9 own W V g N c) (b:Nat) (G:c.hl.length<=1000000000) :
  Sa 56 #[.pointer (some (Tw g 3)),.pointer (some (Tw b 0))] V λe w'=>Uk e (.tuple #[])/\T9 own W w' g N { c with hl:=c.hl++[b] }:=by
 obtain⟨o,gs,qh,qw,v,csh,csw,u,H⟩:=h;refine(vD u.rh u.en.nf u.lab c.hl.length G (by rw[u.hl];exact G) u.c3 u.c4 (u.fz 4) b).mono ?_;rintro e w'⟨rfl,W1,rfl,ha⟩;rw[u.hl]at ha;refine⟨rfl,(u.rowH ha ?_).step H⟩;simp
def Ka (h:T9 own W V g N c) (b:Nat) (G:c.wl.length<=1000000000) :
  Sa 56 #[.pointer (some (Tw g 5)),.pointer (some (Tw b 0))] V λe w'=>Uk e (.tuple #[])/\T9 own W w' g N { c with wl:=c.wl++[b] }:=by
 obtain⟨o,gs,qh,qw,v,csh,csw,u,H⟩:=h;refine(vD u.rw u.en.nf u.lab c.wl.length G (by rw[u.wl];exact G) u.c5 u.c6 (u.fz 6) b).mono ?_;rintro e w'⟨rfl,W1,rfl,ha⟩;rw[u.wl]at ha;refine⟨rfl,(u.rowW ha ?_).step H⟩;simp
def Nu (h:T9 own W V g N c) (n:Nat):T9 own W (V.setCell ⟨g,1,none⟩ (Tu (n:Nat))) g N { c with op:=n }:=by
 obtain⟨o,gs,qh,qw,v,csh,csw,u,G⟩:=h;refine⟨o,gs,qh,qw,v,csh,csw,u.setg 1 _ rfl u.hl.symm u.wl.symm rfl rfl,G.trans ((cA.set (P:=λi=>i=2) u.lab 1 _).fz (by omega))⟩
def Jk (h:T9 own W V g N c) (n:Int):T9 own W (V.setCell ⟨g,2,none⟩ (Tu n)) g N { c with tot:=n }:=by
 obtain⟨o,gs,qh,qw,v,csh,csw,u,G⟩:=h;refine⟨o,gs,qh,qw,v,csh,csw,u.setg 2 _ rfl u.hl.symm u.wl.symm rfl rfl,G.trans ((cA.set (P:=λi=>i=2) u.lab 2 _).fz (by omega))⟩
end
def IT (m:Pm) (tot:Int):List Nat->List Dc->Prop
 |[],[]=>True
 |b :: bs,d :: r=>(∃x,m b=some x/\x.d=d/\∃n:Nat,x.need tot=(n:Nat)/\n<=1000000000000000)/\IT m tot bs r
 |_,_=>False
def IT.len :∀{hl:List Nat}{v:List Dc},IT m tot hl v->hl.length=v.length
 |[],[],_=>rfl
 |b :: bs,d :: r,h=>by rw[List.length_cons,List.length_cons,h.2.len]
 |[],d :: r,h=>h.elim
 |b :: bs,[],h=>h.elim
def Pa {d:Dc}(hd:rt d=true):pw d<=ud d+1000000:=by
 cases gu hd with
 |text t hq=>
  have u:=kf t;have G:=(fN hq).2;unfold pw ud;simp only[TU]
  split<;>omega
 |brk m hq=>
  have:=im hq;simp[pw,ud];omega
 |beg m e hq=>simp[pw,ud]
 |blank=>simp[pw,ud]
 |hard=>simp[pw,ud]
 |empty=>simp[pw,ud]
 | «end»=>simp[pw,ud]
def sx:∀(l:List Dc),(∀d∈l,rt d=true)->lj l<=fF l+1000000*l.length
 |[],_=>by simp[lj,fF]
 |d :: r,h=>by
  have G:=sx r (λx u=>h x (R1 _ u));have H:=Pa (h d RZ);have e:fF (d :: r)=ud d+fF r:=by simp[fF]
  rw[cD,e,List.length_cons];omega
def HI.it :∀{hl:List Nat}{v:List Dc},HI m tot hl v->lj v<=1000000000000000->IT m tot hl v
 |[],[],_,_=>trivial
 |b :: bs,d :: r,h,hp=>by
  obtain⟨⟨J,G,H⟩,I⟩:=h;have ht:=EP d r;have u:=hp;rw[cD]at u;exact⟨⟨_,G,rfl,(sc d r).n,nv H,by omega⟩,I.it (by omega)⟩
 |[],_ :: _,h,_=>h.elim
 |_ :: _,[],h,_=>h.elim
def HC.it :∀{hl:List Nat}{v:List Dc},HC m hl v->lj v<=1000000000000000->IT m tot hl v
 |[],[],_,_=>trivial
 |b :: bs,d :: r,h,hp=>by
  obtain⟨⟨J,st,G,H⟩,I⟩:=h;have ht:=EP d r;have u:=hp;rw[cD]at u;refine⟨⟨_,G,rfl,(sc d r).n,?_,by omega⟩,I.it (by omega)⟩;unfold Px.need;cases hl:mG d
  ·simp
  ·simp[H hl]
 |[],_ :: _,h,_=>h.elim
 |_ :: _,[],h,_=>h.elim
section
variable {own:Nat->Nat} {W:World} {g N:Nat} {c:CS}
def qj (h:T9 own W W g N c) {v0:List Dc}{G T C:Nat}{cl:Bool}(sZ:IT c.m c.tot c.hl v0) (O:eS ⟨c.pr,v0,G,cl⟩ T C) (hT:T<=2147483647) (hC:C<=100000000) (hN:N<=4096) :
  Sa 25 #[.pointer (some (Tw g 0))] W λx w'=>Uk x (.tuple #[])/\T9 own W w' g N { c with pr:=(gZ N c.tot c.m c.pr c.hl).1,hl:=(gZ N c.tot c.m c.pr c.hl).2 }:=by
 obtain⟨F,hF⟩:=ea (gZ N c.tot c.m c.pr c.hl);rw[hF];have Y:Hid (T9 own W W g N { c with pr:=c.pr,hl:=c.hl }/\gZ N c.tot c.m c.pr c.hl=F/\(∃v,IT c.m c.tot c.hl v/\eS ⟨c.pr,v,G,cl⟩ T C)):=⟨h,hF,v0,sZ,O⟩;have ad:Hid (∀(V:World) (p:Pr) (hl:List Nat),T9 own W V g N { c with pr:=p,hl:=hl }->Sa 58 #[.pointer (some (Tw g 3))] V λx w'=>Uk x (.tuple #[.pointer (pa hl.head?),.bool (!hl.isEmpty)])/\T9 own W w' g N { c with pr:=p,hl:=hl }):=λV p hl u=>KV u
 clear h hF sZ O;go_enter func25,ntmps25
 go_wp2_with(go_at_call 58;refine(ad.out _ _ _ Y.out.1).mono ?_;rintro x w1⟨rfl,h1⟩)
 have aj:Hid (T9 own W w1 g N { c with pr:=c.pr,hl:=c.hl }/\gZ N c.tot c.m c.pr c.hl=F/\(∃v,IT c.m c.tot c.hl v/\eS ⟨c.pr,v,G,cl⟩ T C)):=⟨h1,Y.out.2⟩;clear h1 Y
 go_loopw [2,3] (λs2 s3 wr=>∃(p:Pr) (hl:List Nat),s2=.pointer (pa hl.head?)/\s3=.bool (!hl.isEmpty)/\Hid (T9 own W wr g N { c with pr:=p,hl:=hl }/\gZ N c.tot c.m p hl=F/\(∃v,IT c.m c.tot hl v/\eS ⟨p,v,G,cl⟩ T C))) (λ_ _ wr=>dD wr g 4)
 case atStart=>exact⟨c.pr,c.hl,rfl,rfl,aj.out⟩
 case round=>
  obtain⟨p,hl,rfl,rfl,HI⟩:=hrel;cases hl with
  |nil=>
   have HE:Hid (T9 own W wr g N { c with pr:=F.1,hl:=F.2 }):=by
    obtain⟨Q,I,_⟩:=HI.out;rw[<-I];exact Q
   clear HI;(go_wp2_with fail);go_end0;exact⟨rfl,HE.out⟩
  |cons b r=>
   obtain⟨Q,I,v,a3,a4⟩:=HI.out;cases v with
   |nil=>exact a3.elim
   |cons d v=>
    have H:=a3.len;obtain⟨⟨x,S,rfl,n,hn,af⟩,a5⟩:=a3;obtain⟨h7,⟨U,hU1,hU2⟩,hal,hvl,hst⟩:=a4.step N n;have ab:=a4.rt x.d RZ;have M:=Q.piece S;have J:=aW (MU Q S hn af hU1 (by omega) hN)
    have Z:gZ N c.tot c.m p (b :: r)=if uq N p x.d x.st n=true then gZ N c.tot c.m (put N x.d n p) r else(p,b :: r):=by
     rw[gZ,S];simp only[hn,Tg]
    rw[Z]at I
    by_cases hc:uq N p x.d x.st n=true
    ·rw[Or hc]at I;rw[hc]at J;have ak:Hid (∀V,T9 own W V g N { c with pr:=p,hl:=b :: r }->Sa 61 #[.pointer (some (Tw g 0)),.pointer (some (Tw b 0))] V λe w'=>Uk e (Tu (n:Nat))/\Hid (T9 own W w' g N { c with pr:=p,hl:=b :: r })/\w'.heap[b]?=some (.cells (DT x) 137 (0,0))):=λV u=>(NE u S hn).mono λe w' ⟨q1,q2⟩=>⟨q1,q2,q2.piece S⟩
     have am:Hid (∀V,T9 own W V g N { c with pr:=p,hl:=b :: r }->Sa 60 #[.pointer (some (Tw g 7)),x.d.v,Tu (n:Nat)] V λe w'=>Uk e (.tuple #[])/\Hid (T9 own W w' g N { c with pr:=put N x.d n p,hl:=b :: r })/\w'.heap[b]?=some (.cells (DT x) 137 (0,0))):=λV u=>(NW u hU1 (by omega) n af hN (PI hal (by omega)) x.d ab h7).mono λe w' ⟨q1,q2⟩=>⟨q1,q2,q2.piece S⟩
     have al:=aW λV (u:T9 own W V g N { c with pr:=put N x.d n p,hl:=b :: r })=>Nq u rfl (by show(b :: r).length<=_;rw[H];exact PI hvl (by omega))
     have HE:Hid (gZ N c.tot c.m (put N x.d n p) r=F/\(∃v,IT c.m c.tot r v/\eS ⟨put N x.d n p,v,G,cl⟩ T C)):=⟨I,v,a5,hst⟩
     have ag:Hid (dD wr g 4=r.length+1):=by
      have:=Q.cc.2.2.2.1;show _=_;rw[iP this];rfl
     have ac:Hid (∀(V:World) (d:Dc) (ah:Int) (st:Bool) (nd:Int),V.heap[b]?=some (.cells (DT ⟨d,ah,st,nd⟩) 137 (0,0))->V.cell? (Tw b 0)=some (.int .u8 d.k)/\V.cell? (Tw b 1)=some (.string d.t)/\V.cell? (Tw b 2)=some (Tu d.b)/\V.cell? (Tw b 3)=some (Tu d.i)/\V.cell? (Tw b 4)=some (.bool d.e)):=λV d ah st nd u=>⟨aa u rfl,aa u rfl,aa u rfl,aa u rfl,aa u rfl⟩
     obtain⟨⟨dk,dt,db,di,de⟩,ah,st,nd⟩:=x;clear HI Q I a4 a5 hst H hvl hal hU1 h7 Z hc M ab;dsimp only[Dc.v]at *;(go_wp2_with fail);refine J.out.mono ?_;rintro e w2⟨rfl,h2⟩;have H2:=gy h2;have k2:=ac.out w2 _ _ _ _ (h2.piece S);dsimp only at k2;obtain⟨an,ap,aq,ar,au⟩:=k2;clear h2;have ai:=aW λV (u:T9 own W V g N { c with pr:=p,hl:=b :: r })=>u.below (gt _ _).drew
     go_wp2_with fail
     go_region_held3 (λw'=>w'.cell? (Tw b 0)=some (.int .u8 dk)/\w'.cell? (Tw b 1)=some (.string dt)/\w'.cell? (Tw b 2)=some (Tu db)/\w'.cell? (Tw b 3)=some (Tu di)/\w'.cell? (Tw b 4)=some (.bool de)) (first|(exact ac.out _ ⟨dk,dt,db,di,de⟩ _ _ _ (by assumption))|(exact⟨by assumption,by assumption,by assumption,by assumption,by assumption⟩)|go_keep) (first|(go_at_call 61;refine(ak.out _ (by first|exact ai.out _ H2.out|exact H2.out)).mono ?_;rintro e w3⟨rfl,H3,k3⟩)|(go_at_call 60;refine(am.out _ H3.out).mono ?_;rintro e w4⟨rfl,H4,k4⟩))
     all_goals(
      clear k3 k4 an ap aq ar au;(go_wp2_with fail);refine(al.out _ H4.out).mono ?_;rintro e w5⟨rfl,h5⟩;have H5:=gy h5;clear h5
      go_wp2_with(go_at_call 58;refine(ad.out _ _ _ H5.out).mono ?_;rintro x6 w6⟨rfl,h6⟩)
      refine⟨⟨_,r,rfl,rfl,h6,HE.out⟩,?_⟩;have:=h6.cc.2.2.2.1;rw[ag.out,iP this];simp)
    ·have ae:uq N p x.d x.st n=false:=by simpa using hc
     rw[Eq hc]at I;rw[ae]at J;have HE:Hid (∀V,T9 own W V g N { c with pr:=p,hl:=b :: r }->T9 own W V g N { c with pr:=F.1,hl:=F.2 }):=λV u=>by rw[<-I];exact u
     clear HI Q I a4 a5 hst H hvl hal hU1 h7 Z hc ae M ab;(go_wp2_with fail);refine J.out.mono ?_;rintro e w2⟨rfl,h2⟩;have H2:=gy h2;clear h2;(go_wp2_with fail);go_end0;exact⟨rfl,HE.out _ H2.out⟩
def mz {V:World}(h:T9 own W V g N c) {H:List Dc}{G T C:Nat}{cl:Bool}(sZ:IT c.m c.tot c.hl H) (u:eS ⟨c.pr,H,G,cl⟩ T C) (M:T<=2147483647) (I:C<=100000000) (J:N<=4096) :
  Sa 25 #[.pointer (some (Tw g 0))] V λx w'=>Uk x (.tuple #[])/\T9 own W w' g N { c with pr:=(gZ N c.tot c.m c.pr c.hl).1,hl:=(gZ N c.tot c.m c.pr c.hl).2 }:=by
 obtain⟨o,gs,qh,qw,v,csh,csw,O,Q⟩:=h;refine(qj O.t9 sZ u M I J).mono ?_;rintro x w'⟨rfl,ha⟩;exact⟨rfl,ha.step Q⟩
end
def T9.box {own:Nat->Nat}{W V:World}{g N:Nat}{c:CS}(h:T9 own W V g N c) {k:Nat}{o:Obj}(u:W.heap[k]?=some o) (G:own k=0):V.heap[k]?=some o:=by
 obtain⟨J,gs,qh,qw,v,csh,csw,I,H⟩:=h;exact(H.blk k (ai u) G).1.trans u
def T9.newp {own:Nat->Nat}{W V W':World}{g N:Nat}{c:CS}(h:T9 own W V g N c) (x:Px) (G:Below V.heap.size V W') {nb:Nat}(u:V.heap.size<=nb) (H:W'.heap[nb]?=some (.cells (DT x) 137 (0,0))):T9 own W W' g N { c with m:=gi c.m nb x }:=by
 obtain⟨M,gs,qh,qw,v,csh,csw,I,J⟩:=h;obtain⟨o2,q1,q2,_⟩:=I.newp x G u H;exact⟨o2,gs,qh,qw,v,csh,csw,q1,J.trans q2⟩
def T9.tab {own:Nat->Nat}{W V:World}{g N:Nat}{c:CS}(h:T9 own W V g N c):gj V:=by
 obtain⟨H,gs,qh,qw,v,csh,csw,u,G⟩:=h;exact u.en.tab
def T9.size {own:Nat->Nat}{W V:World}{g N:Nat}{c:CS}(h:T9 own W V g N c):W.heap.size<=V.heap.size:=by
 obtain⟨H,gs,qh,qw,v,csh,csw,G,u⟩:=h;exact u.size
def gG {w:World}{q:Nat}{I:Int}{J:ByteArray}{u H:Int}{G:Bool}(h:w.heap[q]?=some (.cells #[.int .u8 I,.string J,Tu u,Tu H,.bool G] 37 (0,0))):w.cell? (Tw q 0)=some (.int .u8 I)/\w.cell? (Tw q 1)=some (.string J)/\w.cell? (Tw q 2)=some (Tu u)/\w.cell? (Tw q 3)=some (Tu H)/\w.cell? (Tw q 4)=some (.bool G):=⟨aa h rfl,aa h rfl,aa h rfl,aa h rfl,aa h rfl⟩
def Em {own:Nat->Nat}{W:World}{g N:Nat}{c:CS}(h:T9 own W W g N c) (u:Int) (M:Nat) (lk:Bool) (hk:u=6/\M=c.op+1/\lk=true\/u=7/\M+1=c.op/\lk=false\/u=3/\M=c.op/\lk=true\/(u≠6/\u≠7/\u≠3)/\M=c.op/\lk=false) (bi:1<=u/\u<=7) (J:ByteArray) (G I:Int) (H:Bool) (ay:rt ⟨u,J,G,I,H⟩=true) (bg:c.op<=1000000000) (rl:List Nat) (aj:c.wl=rl.reverse) (hm:∀b∈rl,∃x,c.m b=some x/\(x.d.k=6\/x.d.k=3)) (bf:rl.length<=900000000) (bj:c.hl.length<=900000000) (al:(aV c.tot u c.m rl).2.length<=rl.length) :
  Sa 24 #[.pointer (some (Tw g 0)),.agg #[.int .u8 u,.string J,Tu G,Tu I,.bool H]] W λe w'=>Uk e (.tuple #[])/\∃nb,W.heap.size<=nb/\T9 own W w' g N { op:=M,tot:=wr (c.tot+(pw ⟨u,J,G,I,H⟩:Nat)),hl:=c.hl++[nb],wl:=(if lk=true then nb :: (aV c.tot u c.m rl).2 else(aV c.tot u c.m rl).2).reverse,m:=gi (aV c.tot u c.m rl).1 nb ⟨⟨u,J,G,I,H⟩,c.tot,false,0⟩,pr:=c.pr }:=by
 obtain⟨o,gs,qh,qw,v,csh,csw,k1,k2⟩:=h;obtain⟨W1,hW1⟩:=ea (W.alloc (.cells #[.int .u8 u,.string J,Tu G,Tu I,.bool H] 37));have ac:Below W.heap.size W W1:=by rw[<-hW1];exact(gt _ _).alloc (ge _) _
 have S:W1.heap[W.heap.size]?=some (.cells #[.int .u8 u,.string J,Tu G,Tu I,.bool H] 37 (0,0)):=by rw[<-hW1];exact ak _ _
 have ad:o W.heap.size=0:=k1.en.nf _ (ge _);have H1:T9 o W1 W1 g N c:=(k1.below ac).t9;have c1:(W.alloc (.cells #[.int .u8 u,.string J,Tu G,Tu I,.bool H] 37)).cell? (Tw g 1)=some (Tu (c.op:Nat)):=by rw[hW1];exact H1.cc.2.1
 have f1:(W.alloc (.cells #[.int .u8 u,.string J,Tu G,Tu I,.bool H] 37)).frozen? (Tw g 1)=false:=by rw[hW1];exact H1.cc.2.2.2.2.2.1 1
 have bh:=H1.cc.2.2.2.2.2.2;have ax:g≠W.heap.size:=by have:=k1.lt;omega
 have be:W.heap.size≠g:=T5 ax
 have au:Hid (∀V,T9 o W1 V g N { c with op:=M }->Sa 27 #[.pointer (some (Tw g 0)),.int .u8 u] V λx w'=>Uk x (.tuple #[])/\Hid (T9 o W1 w' g N { c with op:=M,m:=(aV c.tot u c.m rl).1,wl:=(aV c.tot u c.m rl).2.reverse })/\w'.heap[W.heap.size]?=some (.cells #[.int .u8 u,.string J,Tu G,Tu I,.bool H] 37 (0,0))/\w'.cell? (Tw g 2)=some (Tu c.tot)):=λV O=>by
  refine(uT rl O aj hm (by omega) u (by omega)).mono ?_;rintro x w'⟨rfl,Q⟩;exact⟨rfl,Q,Q.box S ad,Q.cc.2.2.1⟩
 have ap:=aW λV W' (O:T9 o W1 V g N { c with op:=M,m:=(aV c.tot u c.m rl).1,wl:=(aV c.tot u c.m rl).2.reverse }) (hb:Below V.heap.size V W') (Q:W'.heap[V.heap.size]?=some (.cells #[.int .u8 u,.string J,Tu G,Tu I,.bool H,Tu c.tot,.bool false,Tu 0] 137 (0,0)))=>O.newp ⟨⟨u,J,G,I,H⟩,c.tot,false,0⟩ hb (ge _) Q
 have am:Hid (∀(V:World) (m:Pm),T9 o W1 V g N { c with op:=M,m:=m,wl:=(aV c.tot u c.m rl).2.reverse }->Sa 55 #[.agg #[.int .u8 u,.string J,Tu G,Tu I,.bool H]] V λe w'=>Uk e (Tu ((pw ⟨u,J,G,I,H⟩:Nat):Int))/\Hid (T9 o W1 w' g N { c with op:=M,m:=m,wl:=(aV c.tot u c.m rl).2.reverse })/\w'.heap[W.heap.size]?=some (.cells #[.int .u8 u,.string J,Tu G,Tu I,.bool H] 37 (0,0))/\w'.cell? (Tw g 2)=some (Tu c.tot)/\w'.frozen? (Tw g 2)=false/\g<w'.heap.size):=λV m O=>by
  refine(r9 ⟨u,J,G,I,H⟩ ay V O.tab).mono ?_;rintro e w'⟨rfl,hb⟩;have Q:=O.below hb;exact⟨rfl,Q,Q.box S ad,Q.cc.2.2.1,Q.cc.2.2.2.2.2.1 2,Q.cc.2.2.2.2.2.2⟩
 have ah:Hid (∀(V:World) (m:Pm) (n:Int),T9 o W1 V g N { c with op:=M,m:=m,wl:=(aV c.tot u c.m rl).2.reverse }->T9 o W1 (V.setCell ⟨g,2,none⟩ (Tu n)) g N { c with op:=M,tot:=n,m:=m,wl:=(aV c.tot u c.m rl).2.reverse }/\(V.setCell ⟨g,2,none⟩ (Tu n)).heap[W.heap.size]?=some (.cells #[.int .u8 u,.string J,Tu G,Tu I,.bool H] 37 (0,0))):=λV m n O=>by
  have:=Jk O n;exact⟨this,this.box S ad⟩
 have aq:Hid (∀(V:World) (m:Pm) (n:Int) (b:Nat),T9 o W1 V g N { c with op:=M,tot:=n,m:=m,wl:=(aV c.tot u c.m rl).2.reverse }->Sa 56 #[.pointer (some (Tw g 3)),.pointer (some (Tw b 0))] V λe w'=>Uk e (.tuple #[])/\Hid (T9 o W1 w' g N { c with op:=M,tot:=n,hl:=c.hl++[b],m:=m,wl:=(aV c.tot u c.m rl).2.reverse })/\w'.heap[W.heap.size]?=some (.cells #[.int .u8 u,.string J,Tu G,Tu I,.bool H] 37 (0,0))):=λV m n b O=>by
  refine(Kb O b (by show c.hl.length<=_;omega)).mono ?_;rintro x w'⟨rfl,Q⟩;exact⟨rfl,Q,Q.box S ad⟩
 have ar:Hid (∀(V:World) (m:Pm) (n:Int) (hl:List Nat) (b:Nat),T9 o W1 V g N { c with op:=M,tot:=n,hl:=hl,m:=m,wl:=(aV c.tot u c.m rl).2.reverse }->Sa 56 #[.pointer (some (Tw g 5)),.pointer (some (Tw b 0))] V λe w'=>Uk e (.tuple #[])/\T9 o W1 w' g N { c with op:=M,tot:=n,hl:=hl,m:=m,wl:=(b :: (aV c.tot u c.m rl).2).reverse }):=λV m n hl b O=>by
  have:=Ka O b (by show(aV c.tot u c.m rl).2.reverse.length<=_;rw[TC];omega);rw[Ts];exact this
 have ae:Hid (∀(V:World) (cc:CS),T9 o W1 V g N cc->T9 own W V g N cc):=λV cc O=>O.step (k2.trans (Fz.of_below ac))
 have av:=aW λV cc (O:T9 o W1 V g N cc)=>PI ac.size O.size
 have aw:=aW hW1;obtain⟨az,ba,bb,bc,bd⟩:=gG S
 have an:Hid (∀V,Sa 57 #[.int .u8 u] V λe w'=>Uk e (.bool lk)/\w'=V):=λV=>by
  have:=qV u V;rw[show decide (u=6\/u=3)=lk by rcases hk with⟨rfl,_,rfl⟩|⟨rfl,_,rfl⟩|⟨rfl,_,rfl⟩|⟨_,_,rfl⟩<;>first|rfl|exact R9 (by omega)]at this;exact this
 have Z:Hid (∀V:World,V.heap[W.heap.size]?=some (.cells #[.int .u8 u,.string J,Tu G,Tu I,.bool H] 37 (0,0))->V.cell? ⟨W.heap.size,0,none⟩=some (.int .u8 u)/\V.cell? ⟨W.heap.size,1,none⟩=some (.string J)/\V.cell? ⟨W.heap.size,2,none⟩=some (Tu G)/\V.cell? ⟨W.heap.size,3,none⟩=some (Tu I)/\V.cell? ⟨W.heap.size,4,none⟩=some (.bool H)):=λV O=>gG O
 have ag:∀n:Nat,T9 o W1 (W1.setCell ⟨g,1,none⟩ (Tu (n:Nat))) g N { c with op:=n }:=Nu H1;clear hW1 k1 k2 aj hm S ac al;generalize hP:pw ⟨u,J,G,I,H⟩=P at *
 rcases hk with⟨hk,ho,rfl⟩|⟨hk,ho,rfl⟩|⟨hk,ho,rfl⟩|⟨hk,ho,rfl⟩
 have w6:IntKind.i64.wrap ((c.op:Int)+1)=((M:Nat):Int):=by rw[Sn];omega
 have Y:=gy (ag M);rotate_left;have w7:IntKind.i64.wrap ((c.op:Int)-1)=((M:Nat):Int):=by rw[Sn];omega
 have Y:=gy (ag M);rotate_left;have Y:Hid (T9 o W1 W1 g N { c with op:=M }):=by rw[ho];exact H1
 rotate_left;have Y:Hid (T9 o W1 W1 g N { c with op:=M }):=by rw[ho];exact H1
 rotate_left
 all_goals(
  have q1:(u==6)=decide (u=6):=rfl;have q2:(u==7)=decide (u=7):=rfl
  first
  |rw[R8 (by omega)]at q1
  |rw[R9 (by omega)]at q1
  first
  |rw[R8 (by omega)]at q2
  |rw[R9 (by omega)]at q2
  clear ag H1 hk ho)
 all_goals(
  go_enter func24,ntmps24;(go_wp2_with fail)
  rw[aw.out];refine(au.out _ Y.out).mono ?_;rintro e w2⟨rfl,H2,b2,t2⟩;have af:=gy b2;obtain⟨y0,y1,y2,y3,y4⟩:=Z.out _ b2;clear az ba bb bc bd c1 f1 Y b2;(go_wp2_with fail);go_region
  all_goals(
   obtain⟨W3,aa⟩:∃W3,W3=(w2.alloc (.cells #[.int .u8 u,.string J,Tu G,Tu I,.bool H,Tu c.tot,.bool false,Tu 0] 137)).drew:=⟨_,rfl⟩
   have H3:Hid (T9 o W1 W3 g N { c with op:=M,m:=gi (aV c.tot u c.m rl).1 w2.heap.size ⟨⟨u,J,G,I,H⟩,c.tot,false,0⟩,wl:=(aV c.tot u c.m rl).2.reverse }/\W.heap.size<=w2.heap.size):=by
    rw[aa];exact⟨ap.out _ _ H2.out ((gt _ _).alloc (ge _) _).drew (ak _ _),av.out _ _ H2.out⟩
   have t3:W3.cell? (Tw g 2)=some (Tu c.tot):=H3.out.1.cc.2.2.1;have f3:W3.frozen? (Tw g 2)=false:=H3.out.1.cc.2.2.2.2.2.1 2;have g3:g<W3.heap.size:=H3.out.1.cc.2.2.2.2.2.2
   have b3:W3.heap[W.heap.size]?=some (.cells #[.int .u8 u,.string J,Tu G,Tu I,.bool H] 37 (0,0)):=by
    rw[aa];exact(((gt w2.heap.size w2).alloc (ge _) _).drew.block _ (ai af.out)).trans af.out
   rw[<-aa];clear aa H2 t2 y0 y1 y2 y3 y4;obtain⟨y0,y1,y2,y3,y4⟩:=Z.out _ b3;obtain⟨nb,hnb⟩:=ea w2.heap.size;rw[hnb]at H3 ⊢;clear hnb af b3;(go_wp2_with fail)
   go_region_with (first|(go_at_call 55;refine(am.out _ _ (by first|exact H3.out.1.below (gt _ _).drew|exact H3.out.1)).mono ?_;rintro e w4⟨rfl,H4,b4,t4,f4,g4⟩))
   all_goals(
    obtain⟨W5,ab⟩:∃W5,W5=w4.setCell ⟨g,2,none⟩ (Tu (IntKind.i64.wrap (c.tot+(P:Nat)))):=⟨_,rfl⟩
    have H5:Hid (T9 o W1 W5 g N { c with op:=M,tot:=IntKind.i64.wrap (c.tot+(P:Nat)),m:=gi (aV c.tot u c.m rl).1 nb ⟨⟨u,J,G,I,H⟩,c.tot,false,0⟩,wl:=(aV c.tot u c.m rl).2.reverse }):=by
     rw[ab];exact(ah.out _ _ _ H4.out).1
    have b5:W5.heap[W.heap.size]?=some (.cells #[.int .u8 u,.string J,Tu G,Tu I,.bool H] 37 (0,0)):=by
     rw[ab];exact(ah.out _ _ _ H4.out).2
    rw[<-ab];clear ab H4 b4 t4 f4 g4 t3 f3 g3 y0 y1 y2 y3 y4;obtain⟨y0,y1,y2,y3,y4⟩:=Z.out _ b5;clear b5;(go_wp2_with fail);refine(aq.out _ _ _ nb H5.out).mono ?_;rintro e w6⟨rfl,H6,b6⟩;clear y0 y1 y2 y3 y4;obtain⟨y0,y1,y2,y3,y4⟩:=Z.out _ b6;clear b6;(go_wp2_with fail);refine(an.out _).mono ?_;rintro e w7⟨rfl,rfl⟩;(go_wp2_with fail)
    first
    | (refine(ar.out _ _ _ _ nb H6.out).mono ?_;rintro e w8⟨rfl,h8⟩;rw[Ts]at h8;have H8:=gy h8;clear h8;go_wp2_with fail;go_end0;refine⟨rfl,nb,H3.out.2,?_⟩;exact ae.out _ _ H8.out)
    | (go_end0;refine⟨rfl,nb,H3.out.2,?_⟩;exact ae.out _ _ H6.out))))
def eS.drn (N:Nat) {dp T C:Nat}{cl:Bool}:∀(v:List Dc) (p:Pr),eS ⟨p,v,dp,cl⟩ T C->eS ⟨(Go.Proofs.YthfjlkfeeglfmaaGreatDoor.Lw.drn N p v).1,(Go.Proofs.YthfjlkfeeglfmaaGreatDoor.Lw.drn N p v).2,dp,cl⟩ T C
 |[],p,h=>h
 |d :: r,p,h=>by
  rw[Go.Proofs.YthfjlkfeeglfmaaGreatDoor.Lw.drn]
  split
  ·exact eS.drn N r _ (h.step N _).2.2.2.2
  ·exact h
def zx (a b:List Dc):fF (a++b)=fF a+fF b:=by simp[fF]
def eS.push (h:eS s T C) {d:Dc}(hd:Go.Proofs.YthfjlkfeeglfmaaGreatDoor.Lw.rt d=true/\¬(d.k=7/\s.dp=0)) (cl:Bool):eS ⟨s.pr,s.wt++[d],dn d.k s.dp,cl⟩ (T+ud d) (C+1):=by
 obtain⟨U,u,H,G,I⟩:=h;refine⟨U,u,?_,?_,?_⟩
 ·show U+fF (s.wt++[d])<=_;rw[zx];have:fF [d]=ud d:=by simp[fF]
  omega
 ·show mD (s.pr.ar.length:Int) (s.wt++[d])=some (((dn d.k s.dp:Nat)):Int);rw[nE _ _ _ _ G,vS,Or hd];rfl
 ·show s.pr.ar.length+(s.wt++[d]).length<=_;rw[IO,SR];omega
def eS.put {N:Nat}{s:S9}{T C:Nat}(h:eS s T C) (d:Dc):eS (s.put N d).1 (T+ud d) (C+1):=by
 have up:eS s (T+ud d) (C+1):=by
  obtain⟨U,u,H,G,I⟩:=h;exact⟨U,u,by omega,G,by omega⟩
 unfold S9.put
 split
 ·exact up
 ·split
  ·rename_i hd
   exact eS.drn N _ _ (h.push hd false)
  ·exact up
def BP (s:S9):s.told s=[]:=by unfold S9.told;rw[T7]
def FP:∀(l:List Dc) (o o':Int),mD o l=some o'->o'<=o+l.length
 |[],o,o',h=>by simp only[mD,St]at h;subst h;simp
 |d :: r,o,o',h=>by
  simp only[mD]at h
  split at h
  ·have:=FP r _ _ h;have e:cq d.k<=1:=by unfold cq;split;omega;split<;>omega
   rw[List.length_cons];omega
  ·cases h
def eS.dpb (h:eS s T C):s.dp<=C:=by
 obtain⟨_,_,_,u,G⟩:=h;have:=FP _ _ _ u;omega
def eL (p:Pr):Pr:={ p with sk:=p.sk.take }
def pre (u:List UInt8) (p:Pr):Pr:={ p with sk:={ p.sk with out:=u++p.sk.out } }
def Am (p:Pr):pre p.sk.out (eL p)=p:=by
 obtain⟨⟨f,c,w,o⟩,bl,u,en⟩:=p;simp[pre,eL,cX.take]
def Bg (u:List UInt8) (p:Pr):eL (pre u p)=eL p:=rfl
def FC (u:List UInt8) (s:cX) (t:ByteArray):cX.text { s with out:=u++s.out } t={ s.text t with out:=u++(s.text t).out }:=by
 unfold cX.text
 split
 ·rfl
 ·simp[RW]
def FD (u:List UInt8) (s:cX) (n:Nat):cX.feed { s with out:=u++s.out } n={ s.feed n with out:=u++(s.feed n).out }:=by
 simp[cX.feed,RW]
def CA (u:List UInt8) (s:cX):cX.empty { s with out:=u++s.out }={ s.empty with out:=u++s.empty.out }:=by
 obtain⟨f,c,w,o⟩:=s;cases f
 ·rfl
 ·simp[cX.empty,cX.feed,RW]
def vH (u:List UInt8) (p:Pr) (m:Nat):(pre u p).hold m=pre u (p.hold m):=by
 unfold Pr.hold;show(if p.sk.fresh=true then _ else _)=_
 split<;>rfl
def vI (u:List UInt8) (p:Pr):(pre u p).endl=pre u p.endl:=by
 unfold Pr.endl;show(if p.sk.fresh=true then _ else _)=_
 split
 ·rfl
 ·show(⟨cX.feed { p.sk with out:=u++p.sk.out } p.bl.ind,p.bl,p.ar,true⟩:Pr)=_;rw[FD];rfl
def Ke (u:List UInt8) (N:Nat) (d:Dc) (n:Nat) (p:Pr):put N d n (pre u p)=pre u (put N d n p):=by
 have G:(pre u p).brk N n=p.brk N n:=rfl;unfold put
 split
 ·show(⟨cX.text { p.sk with out:=u++p.sk.out } d.t,p.bl,p.ar,false⟩:Pr)=_;rw[FC];rfl
 split
 ·exact vH u p 1
 split
 ·rw[G]
  split
  ·exact vI u p
  ·exact vH u p _
 split
 ·exact vI u p
 split
 ·show(if p.en=true then(⟨cX.empty { p.sk with out:=u++p.sk.out },p.bl,p.ar,false⟩:Pr)else pre u p)=_
  split
  ·rw[CA];rfl
  ·rfl
 split
 ·rfl
 split
 ·rfl
 ·rfl
def sJ (u:List UInt8) (N:Nat) (tot:Int) (m:Pm):∀(hl:List Nat) (p:Pr),gZ N tot m (pre u p) hl=(pre u (gZ N tot m p hl).1,(gZ N tot m p hl).2)
 |[],p=>rfl
 |b :: r,p=>by
  rw[gZ,gZ];cases m b with
  |none=>rfl
  |some x=>
   have hc:uq N (pre u p) x.d x.st (x.need tot).toNat=uq N p x.d x.st (x.need tot).toNat:=rfl;simp only[hc]
   split
   ·rw[Ke];exact sJ u N tot m r _
   ·rfl
def Bp.cut {U:Nat}(h:Bp p U):Bp (eL p) U:=by
 have u:=h.out;refine⟨?_,h.col,h.ind,h.ar,h.wt⟩;show 0+p.sk.wait+(if p.sk.fresh then p.sk.col else 0)<=U;omega
def eS.cut {v:List Dc}{dp:Nat}{cl:Bool}(h:eS ⟨p,v,dp,cl⟩ T C):eS ⟨eL p,v,dp,cl⟩ T C:=by
 obtain⟨U,u,G,H,I⟩:=h;exact⟨U,u.cut,G,H,I⟩
def zU {N:Nat}{l:List Dc}(h:od N l s) {d:Dc}(hd:rt d=true/\¬(d.k=7/\s.dp=0)):od N (l++[d]) ⟨s.pr,s.wt++[d],dn d.k s.dp,false⟩:=by
 have I:=h.len
 have u:(l++[d]).length-(s.wt++[d]).length=l.length-s.wt.length:=by
  rw[IO,IO];simp
 refine⟨?_,rfl,?_,?_,λrest H=>?_⟩
 ·show mD 0 (l++[d])=some ((dn d.k s.dp:Nat):Int);rw[nE l [d] 0 _ h.op,vS,Or hd];rfl
 ·show(s.wt++[d]).length<=(l++[d]).length;rw[IO,IO];omega
 ·show s.wt++[d]=(l++[d]).drop ((l++[d]).length-(s.wt++[d]).length);rw[u,SY (by omega),<-h.wt]
 ·show s.pr=fP N (l++[d]++rest) ((l++[d]).length-(s.wt++[d]).length);have G:l++[d]++rest=l++([d]++rest):=RW _ _ _;rw[u,G];exact h.pr ([d]++rest) (by rw[<-G];exact H)
def Ce (tot e:Int) (m:Pm) (rl:List Nat):(aV tot e m rl).2.length<=rl.length:=by
 unfold aV
 split
 ·exact ge _
 ·have:∀(rl:List Nat) (m:Pm),(sett tot e m rl).2.length<=rl.length:=by
   intro rl
   induction rl with
   |nil=>intro m;exact ge _
   |cons b r ih=>
    intro m;rw[sett];cases m b with
    |none=>exact ge _
    |some x=>
     simp only
     split
     ·exact PI (ih _) (by simp)
     ·split
      ·simp
      ·exact ge _
  exact this rl m
def MR {own:Nat->Nat}{W V:World}{g N:Nat}{c:CS}(h:T9 own W V g N c) (d:Dc) (M:rt d=true) (h7:¬(d.k=7/\c.op=0)) (Q:c.op<=1000000000) (rl:List Nat) (aa:c.wl=rl.reverse) (hm:∀b∈rl,∃x,c.m b=some x/\(x.d.k=6\/x.d.k=3)) (O:rl.length<=900000000) (Z:c.hl.length<=900000000) :
  Sa 24 #[.pointer (some (Tw g 0)),.agg #[.int .u8 d.k,.string d.t,Tu d.b,Tu d.i,.bool d.e]] V λe w'=>Uk e (.tuple #[])/\∃nb,c.m nb=none/\T9 own W w' g N { op:=dn d.k c.op,tot:=wr (c.tot+(pw d:Nat)),hl:=c.hl++[nb],wl:=(if mG d=true then nb :: (aV c.tot d.k c.m rl).2 else(aV c.tot d.k c.m rl).2).reverse,m:=gi (aV c.tot d.k c.m rl).1 nb ⟨d,c.tot,false,0⟩,pr:=c.pr }:=by
 obtain⟨o,gs,qh,qw,v,csh,csw,k1,k2⟩:=h;have G:=Ce c.tot d.k c.m rl
 have u:∀nb,V.heap.size<=nb->c.m nb=none:=λnb J=>by
  cases hx:c.m nb with
  |none=>rfl
  |some x=>have:=ai (k1.pm nb x hx).1;omega
 have I:1<=d.k/\d.k<=7:=by cases gu M<;>simp
 obtain⟨H,dt,db,di,de⟩:=d;simp only at G h7 I;refine(Em k1.t9 H (dn H c.op) (mG ⟨H,dt,db,di,de⟩) ?_ I dt db di de M Q rl aa hm O Z G).mono ?_
 ·unfold dn mG
  by_cases S:H=6
  ·subst S;exact .inl ⟨rfl,rfl,rfl⟩
  ·rw[Eq S]
   by_cases Y:H=7
   ·subst Y;exact .inr (.inl ⟨rfl,Nat.sub_add_cancel (Nat.pos_of_ne_zero λe=>h7 ⟨rfl,e⟩),rfl⟩)
   ·rw[Eq Y]
    by_cases e3:H=3
    ·subst e3;exact .inr (.inr (.inl ⟨rfl,rfl,rfl⟩))
    ·exact .inr (.inr (.inr ⟨⟨S,Y,e3⟩,rfl,R9 (by simp only;omega)⟩))
 ·rintro e w'⟨rfl,nb,J,ht⟩;exact⟨rfl,nb,u nb J,ht.step k2⟩
def eS.rings {hl rl:List Nat}(h:eS s T C) (u:WI m tot hl rl s.wt s.dp) (M:C<=100000000):rl.length<=300000000/\hl.length<=100000000/\s.dp<=100000000:=by
 have G:=u.wr.le.2.1;have H:=h.dpb;have I:=u.hi.len;obtain⟨_,_,_,_,J⟩:=h;omega
def nu {own:Nat->Nat}{W V:World}{g N:Nat}{c:CS}(h:T9 own W V g N c):Sa 22 #[.pointer (some (Tw g 0))] V λe w'=>Uk e (Tu 0)/\w'=V:=lK g false V h.cc.1
def B7 (d:Dc) (g:Nat) (W:World) (h:W.cell? (Tw g 0)=some (.bool true)):Sa 8 #[.pointer (some (Tw g 0)),.agg #[.int .u8 d.k,.string d.t,Tu d.b,Tu d.i,.bool d.e]] W λe w'=>Uk e (.tuple #[.string ⟨#[]⟩,Tu 4])/\Se W w':=by
 obtain⟨M,O,H,J,I⟩:=d;dsimp only;have u:Hid (∀o,Se W (W.alloc o)):=λo=>(gt _ _).alloc (ge _) _
 have G:Hid (∀o,Sa 22 #[.pointer (some (Tw g 0))] (W.alloc o) λe w'=>Uk e (Tu 4)/\w'=W.alloc o):=λo=>lK g true _ (((gt W.heap.size W).alloc (ge _) o).cell (p:=(Tw g 0)) (RV _ _ h) |>.trans h)
 clear h;go_enter func8,ntmps8;(go_wp2_with fail);refine(G.out _).mono ?_;rintro e Q⟨rfl,rfl⟩;(go_wp2_with fail);go_ret2;exact⟨rfl,u.out _⟩
section
variable {own:Nat->Nat} {W:World} {g N gs qh qw:Nat} {v:Value} {csh csw:List (Nat × List Nat)} {c:CS}
def EB (h:ST own W g N gs qh qw v csh csw c) (d:Dc) (S:d.t.size<=9223372036854775807) (H:¬(rt d=true/\¬(d.k=7/\c.op=0))) :
  Sa 8 #[.pointer (some (Tw g 0)),.agg #[.int .u8 d.k,.string d.t,Tu d.b,Tu d.i,.bool d.e]] W λe w'=>Uk e (.tuple #[.string ⟨#[]⟩,Tu 70])/\Se W w':=by
 obtain⟨W1,I⟩:=ea (W.alloc (.cells #[.int .u8 d.k,.string d.t,Tu d.b,Tu d.i,.bool d.e] 37));have J:Se W W1:=by rw[<-I];exact(gt _ _).alloc (ge _) _
 have O:W1.heap[W.heap.size]?=some (.cells #[.int .u8 d.k,.string d.t,Tu d.b,Tu d.i,.bool d.e] 37 (0,0)):=by rw[<-I];exact ak _ _
 have Y:=h.below J;have HR:=aW (nu Y.t9);obtain⟨x0,x1,x2,x3,x4⟩:=gG O
 have u:Hid (Sa 23 #[d.v] W1 λe w'=>Uk e (.bool (rt d))/\Hid (Se W w')/\w'.cell? ⟨W.heap.size,0,none⟩=some (.int .u8 d.k)/\w'.cell? (Tw g 1)=some (Tu (c.op:Nat))):=by
  refine(oG d S W1).mono ?_;rintro e w'⟨rfl,hb⟩;exact⟨rfl,J.trans (hb.mono J.size),aa (af O hb) rfl,(Y.below hb).c1⟩
 have Q:=aW I;clear I h Y J O S;cases G:rt d
 ·rw[G]at u;clear H G;obtain⟨dk,dt,db,di,de⟩:=d;dsimp only[Dc.v]at *;go_enter func8,ntmps8;(go_wp2_with fail);rw[Q.out];refine HR.out.mono ?_;rintro e w1⟨rfl,rfl⟩;(go_wp2_with fail);refine u.out.mono ?_;rintro e w2⟨rfl,M,y0,y1⟩;(go_wp2_with fail);go_ret2;exact⟨rfl,M.out⟩
 ·have Z:d.k=7/\c.op=0:=Uj λhn=>H ⟨G,hn⟩
  obtain⟨Z,h0⟩:=Z;rw[G]at u;rw[h0]at u;clear H G h0;obtain⟨dk,dt,db,di,de⟩:=d;dsimp only[Dc.v]at *;subst Z;go_enter func8,ntmps8;(go_wp2_with fail);rw[Q.out];refine HR.out.mono ?_;rintro e w1⟨rfl,rfl⟩;(go_wp2_with fail);refine u.out.mono ?_;rintro e w2⟨rfl,M,y0,y1⟩;(go_wp2_with fail);go_ret2;exact⟨rfl,M.out⟩
def B5 (h:ST own W g N gs qh qw v csh csw c) (d:Dc) (au:d.t.size<=9223372036854775807) (G:rt d=true/\¬(d.k=7/\c.op=0)) {s:S9}{T C:Nat}{rl:List Nat}(ax:c.wl=rl.reverse) (hw:WI c.m c.tot c.hl rl s.wt s.dp) (ai:c.op=s.dp) (aw:c.pr=eL s.pr) (Q:eS s T C) (hT:T+ud d<=2147483647) (hC:C+1<=100000000) (hN:N<=4096)
  {l:List Dc} (Y:od N l s) (ae:Fe s.pr s.wt) :
  Sa 8 #[.pointer (some (Tw g 0)),.agg #[.int .u8 d.k,.string d.t,Tu d.b,Tu d.i,.bool d.e]] W λe w'=>Uk e (.tuple #[.string ⟨(s.told (s.put N d).1).toArray⟩,Tu 0])/\∃c',T9 own W w' g N c'/\(∃M,c'.wl=M.reverse/\WI c'.m c'.tot c'.hl M (s.put N d).1.wt (s.put N d).1.dp)/\c'.op=(s.put N d).1.dp/\c'.pr=eL (s.put N d).1.pr/\od N (l++[d]) (s.put N d).1/\Fe (s.put N d).1.pr (s.put N d).1.wt:=by
 have u:rt d=true/\¬(d.k=7/\s.dp=0):=by rw[<-ai];exact G
 obtain⟨bd,be,bf⟩:=Q.rings hw (by omega);have J:=Q.push u false;have ac:=J.rt
 have aj:lj (s.wt++[d])<=1000000000000000:=by
  have h1:=sx (s.wt++[d]) ac;obtain⟨U,_,h2,_,h4⟩:=J;simp only at h2 h4;omega
 have ab:lj s.wt+pw d<4611686018427387904:=by rw[vy]at aj;omega
 have O:s.put N d=(⟨(drn N s.pr (s.wt++[d])).1,(drn N s.pr (s.wt++[d])).2,dn d.k s.dp,false⟩,0):=by
  unfold S9.put;rw[Eq (by rw[Y.cl];simp),Or u]
 rw[O];obtain⟨W1,S⟩:=ea (W.alloc (.cells #[.int .u8 d.k,.string d.t,Tu d.b,Tu d.i,.bool d.e] 37));have ah:Se W W1:=by rw[<-S];exact(gt _ _).alloc (ge _) _
 have al:W1.heap[W.heap.size]?=some (.cells #[.int .u8 d.k,.string d.t,Tu d.b,Tu d.i,.bool d.e] 37 (0,0)):=by rw[<-S];exact ak _ _
 have h1:=h.below ah;have ag:T9 own W W1 g N c:=h.t9.below ah;have HR:=aW (nu ag)
 have an:Hid (Sa 23 #[d.v] W1 λe w'=>Uk e (.bool true)/\Hid (T9 own W w' g N c)/\w'.heap[W.heap.size]?=some (.cells #[.int .u8 d.k,.string d.t,Tu d.b,Tu d.i,.bool d.e] 37 (0,0))/\w'.cell? (Tw g 1)=some (Tu (c.op:Nat))):=by
  have:=oG d au W1;rw[G.1]at this;refine this.mono ?_;rintro e w'⟨rfl,Q⟩;exact⟨rfl,ag.below Q,af al Q,(h1.below Q).c1⟩
 have ap:Hid (∀V,T9 own W V g N c->Sa 24 #[.pointer (some (Tw g 0)),.agg #[.int .u8 d.k,.string d.t,Tu d.b,Tu d.i,.bool d.e]] V λe w'=>Uk e (.tuple #[])/\Hid (∃c1 H,T9 own W w' g N c1/\c1.wl=H.reverse/\WI c1.m c1.tot c1.hl H (s.wt++[d]) (dn d.k s.dp)/\c1.op=dn d.k s.dp/\c1.pr=eL s.pr)):=λV hV=>by
  refine(MR hV d G.1 G.2 (by omega) rl ax (λb Q=>?_) (by omega) (by omega)).mono ?_
  ·obtain⟨x,e1,_,e3,_⟩:=hw.wr.mem b Q;exact⟨x,e1,e3⟩
  rintro e w'⟨rfl,nb,bc,ht⟩;have:=hw.take u.1 u.2 bc ab;exact⟨rfl,_,_,ht,rfl,this,by rw[ai],aw⟩
 have am:Hid (∀V,(∃c1 H,T9 own W V g N c1/\c1.wl=H.reverse/\WI c1.m c1.tot c1.hl H (s.wt++[d]) (dn d.k s.dp)/\c1.op=dn d.k s.dp/\c1.pr=eL s.pr)->Sa 25 #[.pointer (some (Tw g 0))] V λe w'=>Uk e (.tuple #[])/\Hid (∃c2 I,T9 own W w' g N c2/\c2.wl=I.reverse/\WI c2.m c2.tot c2.hl I (drn N s.pr (s.wt++[d])).2 (dn d.k s.dp)/\c2.op=dn d.k s.dp/\pre s.pr.sk.out c2.pr=(drn N s.pr (s.wt++[d])).1/\(∃U,Bp c2.pr U/\U<=2147483647))/\(∀k,w'.frozen? (Tw g k)=false)):=λV ⟨c1,H,t1,t2,t3,t4,t5⟩=>by
  have az:eS ⟨c1.pr,s.wt++[d],dn d.k s.dp,false⟩ (T+ud d) (C+1):=by rw[t5];exact J.cut
  refine(mz t1 (t3.hi.it aj) az hT hC hN).mono ?_;rintro e w'⟨rfl,ht⟩;obtain⟨q1,q2,q3,q4⟩:=Bs hN c1.hl (s.wt++[d]) s.pr t3 (zU Y u) (ae.app [d]);have av:=sJ s.pr.sk.out N c1.tot c1.m c1.hl (eL s.pr);rw[Am]at av;rw[av]at q1 q2;refine⟨rfl,⟨_,H,ht,t2,?_,t4,?_,?_⟩,ht.cc.2.2.2.2.2.1⟩
  ·simp only[t5];exact q2
  ·simp only[t5];exact q1
  ·have ba:=eS.drn N _ _ J;obtain⟨U,u1,u2,_⟩:=ba;simp only at u1 u2;refine⟨U,?_,by omega⟩;simp only[t5];have u3:=u1.cut;rw[<-q1,Bg]at u3;have u4:=u1.out;rw[<-q1]at u4;have u5:((pre s.pr.sk.out (gZ N c1.tot c1.m (eL s.pr) c1.hl).1).sk.out).length=s.pr.sk.out.length+(gZ N c1.tot c1.m (eL s.pr) c1.hl).1.sk.out.length:=by simp[pre]
   rw[u5]at u4;refine⟨?_,u3.col,u3.ind,u3.ar,u3.wt⟩;have u6:(pre s.pr.sk.out (gZ N c1.tot c1.m (eL s.pr) c1.hl).1).sk.wait=(gZ N c1.tot c1.m (eL s.pr) c1.hl).1.sk.wait:=rfl;have u7:(pre s.pr.sk.out (gZ N c1.tot c1.m (eL s.pr) c1.hl).1).sk.fresh=(gZ N c1.tot c1.m (eL s.pr) c1.hl).1.sk.fresh:=rfl;have u8:(pre s.pr.sk.out (gZ N c1.tot c1.m (eL s.pr) c1.hl).1).sk.col=(gZ N c1.tot c1.m (eL s.pr) c1.hl).1.sk.col:=rfl;rw[u6,u7,u8]at u4;omega
 have aq:Hid (∀V,(∃c2 I,T9 own W V g N c2/\c2.wl=I.reverse/\WI c2.m c2.tot c2.hl I (drn N s.pr (s.wt++[d])).2 (dn d.k s.dp)/\c2.op=dn d.k s.dp/\pre s.pr.sk.out c2.pr=(drn N s.pr (s.wt++[d])).1/\(∃U,Bp c2.pr U/\U<=2147483647))->Sa 26 #[.pointer (some (Tw g 7))] V λe w'=>Uk e (.string ⟨((drn N s.pr (s.wt++[d])).1.sk.out.drop s.pr.sk.out.length).toArray⟩)/\Hid (∃c',T9 own W w' g N c'/\(∃M,c'.wl=M.reverse/\WI c'.m c'.tot c'.hl M (drn N s.pr (s.wt++[d])).2 (dn d.k s.dp))/\c'.op=dn d.k s.dp/\c'.pr=eL (drn N s.pr (s.wt++[d])).1)):=λV ⟨c2,I,t1,t2,t3,t4,t5,U,t6,t7⟩=>by
  refine(Ec t1 t6 t7).mono ?_;rintro e w'⟨rfl,ht⟩;refine⟨?_,_,ht,⟨I,t2,t3⟩,t4,?_⟩
  ·rw[<-t5];have:(pre s.pr.sk.out c2.pr).sk.out=s.pr.sk.out++c2.pr.sk.out:=rfl;rw[this,Vk]
  ·rw[<-t5,Bg];rfl
 have Z:Hid (od N (l++[d]) ⟨(drn N s.pr (s.wt++[d])).1,(drn N s.pr (s.wt++[d])).2,dn d.k s.dp,false⟩/\Fe (drn N s.pr (s.wt++[d])).1 (drn N s.pr (s.wt++[d])).2):=by
  have hp:=zT hN Y u;rw[O]at hp;refine⟨hp.2,?_⟩
  have:∀(v:List Dc) (p:Pr),od N (l++[d]) ⟨p,v,dn d.k s.dp,false⟩->Fe p v->Fe (drn N p v).1 (drn N p v).2:=by
   intro v
   induction v with
   |nil=>intro p _ hF;exact hF
   |cons x r ih=>
    intro p Y hF;rw[drn]
    split
    ·rename_i hs
     obtain⟨rest,bb,bg,h7⟩:=EK hN Y;have hp:=sA hN (r:=r) (rest:=rest) bb hF;refine ih _ (uR hN Y hs) ?_;rw[<-hp];refine yK hF (bg x RZ) (h7 x r rfl) (λh6 ay=>?_);have hc:=(zJ (N:=N) hF).symm.trans hs;unfold uq at hc;have h3:¬x.k=3:=by omega
     simp[ay,h6]at hc;have es:sc x r=r.foldl gp ⟨0,1,false⟩:=by unfold sc;rw[Or h6]
     rw[es]at hc;exact AQ r 0 1 hc
    ·exact hF
  exact this _ _ (zU Y u) (ae.app [d])
 have ar:=aW S;have aa:Hid (s.told ⟨(drn N s.pr (s.wt++[d])).1,(drn N s.pr (s.wt++[d])).2,dn d.k s.dp,false⟩=(drn N s.pr (s.wt++[d])).1.sk.out.drop s.pr.sk.out.length):=rfl;obtain⟨y0,y1,y2,y3,y4⟩:=gG al;have ad:d.k=7->¬(c.op=0):=λe e2=>G.2 ⟨e,e2⟩
 clear S h h1 ah al au ag O hw ax ai aw Q Y ae G u J ac aj ab bd be bf;generalize(drn N s.pr (s.wt++[d])).1.sk.out.drop s.pr.sk.out.length=OO at *
 by_cases h7:d.k=7
 ·have q0:((c.op:Int)==0)=false:=by have:=ad h7;simp;omega
  obtain⟨dk,dt,db,di,de⟩:=d;dsimp only[Dc.v]at *;subst h7;clear ad;go_enter func8,ntmps8;(go_wp2_with fail);rw[ar.out];refine HR.out.mono ?_;rintro e w1⟨rfl,rfl⟩;(go_wp2_with fail);refine an.out.mono ?_;rintro e w2⟨rfl,H2,b2,t2⟩;clear y0 y1 y2 y3 y4;obtain⟨y0,y1,y2,y3,y4⟩:=gG b2;clear b2;(go_wp2_with fail);refine(ap.out _ H2.out).mono ?_;rintro e w3⟨rfl,H3⟩;clear y0 y1 y2 y3 y4;(go_wp2_with fail);refine(am.out _ H3.out).mono ?_;rintro e w4⟨rfl,H4,f4⟩;(go_wp2_with fail);refine(aq.out _ H4.out).mono ?_;rintro e w5⟨rfl,H5⟩;(go_wp2_with fail);go_ret2;obtain⟨c',r1,r2,r3,r4⟩:=H5.out;exact⟨by rw[aa.out];rfl,c',r1,r2,r3,r4,Z.out⟩
 ·have q7:(d.k==7)=false:=by simpa using h7
  obtain⟨dk,dt,db,di,de⟩:=d;dsimp only[Dc.v]at *;clear ad;go_enter func8,ntmps8;(go_wp2_with fail);rw[ar.out];refine HR.out.mono ?_;rintro e w1⟨rfl,rfl⟩;(go_wp2_with fail);refine an.out.mono ?_;rintro e w2⟨rfl,H2,b2,t2⟩;clear y0 y1 y2 y3 y4;obtain⟨y0,y1,y2,y3,y4⟩:=gG b2;clear b2;(go_wp2_with fail);refine(ap.out _ H2.out).mono ?_;rintro e w3⟨rfl,H3⟩;clear y0 y1 y2 y3 y4;(go_wp2_with fail);refine(am.out _ H3.out).mono ?_;rintro e w4⟨rfl,H4,f4⟩;(go_wp2_with fail);refine(aq.out _ H4.out).mono ?_;rintro e w5⟨rfl,H5⟩;(go_wp2_with fail);go_ret2;obtain⟨c',r1,r2,r3,r4⟩:=H5.out;exact⟨by rw[aa.out];rfl,c',r1,r2,r3,r4,Z.out⟩
end
