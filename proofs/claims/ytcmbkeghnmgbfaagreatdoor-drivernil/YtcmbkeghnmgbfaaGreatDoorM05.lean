import Derived.Test.YtcmbkeghnmgbfaaGreatDoorM04
set_option linter.all false
namespace Go.Proofs.YtcmbkeghnmgbfaaGreatDoor.Lx
open Go.RowKit
variable {s c S:ByteArray}{b p k f m a j n e q:Nat}{T:List Tk}{o:Bool}
inductive jT (g:Nat->Nat->Rd) (a m:Nat):Nat->Nat->Prop
 |refl:jT g a m a m
 |step {p k n:Nat}:jT g a m p k->g p k=.on n->jT g a m (p+n) (k+1)
theorem jT.same {g:Nat->Nat->Rd}{z a m p k:Nat}(h:jT g a m p k) (u:dR g z) (F:a<=z):a<=p/\p<=z/\run g z a m=run g z p k:=by
 induction h with
 |refl=>exact⟨ge _,F,rfl⟩
 |step _ h2 ih=>
  obtain⟨I,G,H⟩:=ih;obtain⟨h3,h4⟩:=u _ _ _ h2;exact⟨by omega,h4,H.trans (jp u G h2)⟩
theorem jT.more {g u:Nat->Nat->Rd}{z y:Nat}(h:jT g a m p k) (F:dR g z) (J:p<=y) (G:∀b j,b<y->u b j=g b j):jT u a m p k:=by
 induction h with
 |refl=>exact .refl
 |step _ h2 ih=>
  obtain⟨H,I⟩:=F _ _ _ h2;exact .step (ih (by omega)) (by rw[G _ _ (by omega)];exact h2)
theorem jT.inv {g:Nat->Nat->Rd}(I:Nat->Prop) (u:∀b j n,I b->g b j=.on n->I (b+n)) (h:jT g a m p k) (F:I a):I p:=by
 induction h with
 |refl=>exact F
 |step _ h2 ih=>exact u _ _ _ ih h2
theorem uV (h:cW s f k b j=.on n):b+n<=f+65535:=by
 unfold cW at h
 split at h
 ·cases h
 ·split at h
  ·cases h
  ·split at h
   ·cases h
   ·cases h;omega
theorem va (h:bS s f q o b j=.on n):b+n<=f+65535:=by
 unfold bS at h
 split at h
 ·cases h
 ·split at h
  ·cases h
  ·split at h
   ·cases h
   ·split at h
    ·cases h
    ·cases h;omega
theorem o7 (h:bK s f o b j=.on n):b+n<=f+65535/\n=1/\(o=false->av s b≠10):=by
 unfold bK at h
 split at h
 ·split at h<;>cases h
 ·split at h
  ·cases h
  ·rename_i F
   split at h
   ·cases h
   ·split at h
    ·cases h
    ·cases h;exact⟨by omega,rfl,fun G u=>F ⟨G,u⟩⟩
theorem Fm (s:ByteArray) (b:Nat):ak s b<=8:=by
 unfold ak
 repeat' split
 all_goals decide
theorem Fa (u:av s p≠10) (F:p<=j) (G:j<p+dw s p):av s j≠10:=by
 by_cases e:j=p
 ·rw[e];exact u
 ·have:=(eD s p (j-p) (by omega) (by omega)).2;rw[show p+(j-p)=j by omega]at this;omega
inductive MS (s:ByteArray) (b p:Nat):Nat->Prop
 |none:b=p->MS s b p 0
 |name {m:Nat}:b<p->ak s b=1->jT (cW s b 1) b 0 p m->MS s b p 1
 |num {m:Nat}:b<p->ak s b=3->jT (cW s b 3) b 0 p m->MS s b p 2
 |sign:b<p->p<=s.size->(sg (s.extract b p) 0).size=p-b->MS s b p 3
 |line {m:Nat}:b+1<p->ak s b=7->jT (bK s b false) b 0 p m->MS s b p 4
 |block {m:Nat}:b<p->ak s b=8->jT (bK s b true) b 0 p m->MS s b p 5
 |text {m:Nat}:b<p->ak s b=4->jT (bS s b 34 false) (b+1) 0 p m->MS s b p 6
 |char:p=b+1->ak s b=5->MS s b p 7
 |quote:b+1<p->ak s b=5->jT (bS s b 39 true) (b+1) 0 p 1->MS s b p 8
theorem MS.more (h:MS s b p k) (I:so s c s.size) (H:p<=s.size):MS (s++c) b p k:=by
 have J:∀M,b<p->ak s b=M->M≠6->M≠7->ak (s++c) b=M:=fun M u F G O=>by
  rw[lS I b (by omega) (.inr (by rw[F];exact⟨G,O⟩)),F]
 cases h with
 |none h=>exact .none h
 |name u F G=>exact .name u (J _ u F (by decide) (by decide)) (G.more (eV s b 1) H (fun d j hd=>qk I b 1 d j hd))
 |num u F G=>exact .num u (J _ u F (by decide) (by decide)) (G.more (eV s b 3) H (fun d j hd=>qk I b 3 d j hd))
 |sign u F G=>exact .sign u (by rw[ax];omega) (by rw[eC s c b p H];exact G)
 |line u F G=>exact .line u (by rw[lS I b (by omega) (.inl (by omega)),F]) (G.more (ce s b false) H (fun d j hd=>lO s c b false d j hd))
 |block u F G=>exact .block u (J _ u F (by decide) (by decide)) (G.more (ce s b true) H (fun d j hd=>lO s c b true d j hd))
 |text u F G=>exact .text u (J _ u F (by decide) (by decide)) (G.more (bU s b 34 false) H (fun d j hd=>kY I b 34 false d j hd))
 |char u F=>exact .char u (J _ (by omega) F (by decide) (by decide))
 |quote u F G=>exact .quote u (J _ (by omega) F (by decide) (by decide)) (G.more (bU s b 39 true) H (fun d j hd=>kY I b 39 true d j hd))
theorem MS.len (h:MS s b p k):b<=p/\p<=b+65535:=by
 cases h with
 |none h=>omega
 |name h1 h2 h3=>exact⟨by omega,h3.inv (fun d=>d<=b+65535) (fun _ _ _ _ u=>uV u) (by omega)⟩
 |num h1 h2 h3=>exact⟨by omega,h3.inv (fun d=>d<=b+65535) (fun _ _ _ _ u=>uV u) (by omega)⟩
 |sign h1 h2 h3=>have:=sJ (s.extract b p) 0;exact⟨by omega,by omega⟩
 |line h1 h2 h3=>exact⟨by omega,h3.inv (fun d=>d<=b+65535) (fun _ _ _ _ u=>(o7 u).1) (by omega)⟩
 |block h1 h2 h3=>exact⟨by omega,h3.inv (fun d=>d<=b+65535) (fun _ _ _ _ u=>(o7 u).1) (by omega)⟩
 |text h1 h2 h3=>exact⟨by omega,h3.inv (fun d=>d<=b+65535) (fun _ _ _ _ u=>va u) (by omega)⟩
 |char h1 h2=>omega
 |quote h1 h2 h3=>exact⟨by omega,h3.inv (fun d=>d<=b+65535) (fun _ _ _ _ u=>va u) (by omega)⟩
inductive cB (s:ByteArray):List Tk->Nat->Nat->Prop
 |nil:cB s [] 0 0
 |feed {T:List Tk} {b f:Nat}:cB s T b f->b<s.size->av s b=10->cB s T (b+1) (f+1)
 |blank {T:List Tk} {b f:Nat}:cB s T b f->b<s.size->av s b≠10->bJ (av s b)=true->cB s T (b+1) f
 |tok {T:List Tk} {b f p:Nat}:cB s T b f->b<s.size->av s b≠10->bJ (av s b)=false->ak s b≠0->aC s b (ak s b)=(p,0)->(p<s.size\/ak s b=4\/ak s b=5\/ak s b=8)->cB s (T++[bh s (ak s b) b p f]) p 0
theorem vO (H:b<s.size) (u:av s b≠10) (F:bJ (av s b)=false) (I:ak s b=k) (G:k≠0) (J:aC s b k=(p,0)):rA s b f=(bh s k b p f :: (rA s p 0).1,(rA s p 0).2):=by
 rw[gq s b f H,IO u,IO (by rw[F];decide),I,IO G,J,IO (by simp)]
theorem EA (H:b<s.size) (u:av s b≠10) (F:bJ (av s b)=false) (J:ak s b=k) (G:k≠0) (M:aC s b k=(p,e)) (I:e≠0):rA s b f=([],e,p):=by
 rw[gq s b f H,IO u,IO (by rw[F];decide),J,IO G,M,Kd (by simpa using I)]
theorem Bv (G:b<s.size) (u:av s b≠10) (F:bJ (av s b)=false) (H:ak s b=0):rA s b f=([],100,b):=by
 rw[gq s b f G,IO u,IO (by rw[F];decide),Kd H]
theorem cB.scn (h:cB s T b f):scn s=(T++(rA s b f).1,(rA s b f).2):=by
 induction h with
 |nil=>rfl
 |feed _ h1 h2 ih=>rw[ih,gq s _ _ h1,Kd h2]
 |blank _ h1 h2 h3 ih=>rw[ih,gq s _ _ h1,IO h2,Kd h3]
 |tok _ h1 h2 h3 h4 h5 _ ih=>rw[ih,vO h1 h2 h3 rfl h4 h5,Ks];rfl
theorem cB.more (h:cB s T b f) (H:so s c s.size):cB (s++c) T b f:=by
 have I:=ax s c
 induction h with
 |nil=>exact .nil
 |feed _ h1 h2 ih=>exact .feed ih (by omega) (by rw[bj s c _ h1];exact h2)
 |blank _ h1 h2 h3 ih=>exact .blank ih (by omega) (by rw[bj s c _ h1];exact h2) (by rw[bj s c _ h1];exact h3)
 |tok _ h1 h2 h3 h4 h5 h6 ih=>
  obtain⟨u,F⟩:=zr H _ _ h1 h4 h5 h6;have G:=eH s _ _ _ h1 rfl h4 h5;have:=cB.tok ih (by omega) (by rw[bj s c _ h1];exact h2) (by rw[bj s c _ h1];exact h3) (by rw[u];exact h4) (by rw[u];exact F) (by rw[u];rcases h6 with h|h;exact .inl (by omega);exact .inr h);rw[u,wI s c _ _ _ _ G.2]at this;exact this
theorem cB.bds (h:cB s T b f):bd s b/\b<=s.size/\T.length<=b/\f<=b/\∀t∈T,t.a<t.e/\t.e<=b/\t.k<=8/\bd s t.a:=by
 induction h with
 |nil=>exact⟨we s,Kj _,ge _,ge _,fun t ht=>by cases ht⟩
 |feed _ h1 h2 ih=>
  obtain⟨F,H,I,J,u⟩:=ih;exact⟨(jD s _ h1 (by omega)).2,h1,by omega,by omega,fun t ht=>⟨(u t ht).1,by have:=(u t ht).2.1;omega,(u t ht).2.2⟩⟩
 |blank _ h1 h2 h3 ih=>
  obtain⟨F,H,I,J,u⟩:=ih;exact⟨(jD s _ h1 (Co h3)).2,h1,by omega,by omega,fun t ht=>⟨(u t ht).1,by have:=(u t ht).2.1;omega,(u t ht).2.2⟩⟩
 | @tok T b f p _ h1 h2 h3 h4 h5 h6 ih=>
  obtain⟨F,H,I,J,u⟩:=ih;have G:=eH s _ _ _ h1 rfl h4 h5;refine⟨Hg F h1 rfl h4 h5,G.2,by rw[Kf];show T.length+1<=p;omega,Kj _,fun t ht=>?_⟩
  rcases Lg.1 ht with ht|ht
  ·exact⟨(u t ht).1,by have:=(u t ht).2.1;omega,(u t ht).2.2⟩
  ·rw[Mk.1 ht];refine⟨?_,?_,?_,F⟩
   ·show b<if ak s b=7 then aV s p else p
    split
    ·exact gA s b h3 p G.1
    ·exact G.1
   ·show(if ak s b=7 then aV s p else p)<=p
    split
    ·exact eh s p
    ·exact ge _
   ·show(if ak s b=1/\ky (s.extract b p)=true then 2 else ak s b)<=8
    split
    ·decide
    ·exact Fm s b
theorem cB.sure (h:cB s T b f):∀t∈T,gW s t:=by
 induction h with
 |nil=>intro t ht;cases ht
 |feed _ h1 h2 ih=>exact ih
 |blank _ h1 h2 h3 ih=>exact ih
 | @tok T b f p _ h1 h2 h3 h4 h5 h6 ih=>
  intro t ht
  rcases Lg.1 ht with ht|ht
  ·exact ih t ht
  ·rw[Mk.1 ht];have I:=eH s b (ak s b) p h1 rfl h4 h5;unfold gW bh;simp only
   by_cases u:ak s b=7
   ·rw[IO (by omega),Kd u];refine .inr (.inr (.inr (.inl ⟨u,?_⟩)));rw[u]at h5;unfold aC at h5;rw[IO (by decide),IO (by decide),Kd rfl]at h5;have F:=((E3 s b false p 0 (by omega) h5).1 rfl rfl).2;have H:p<s.size:=by omega
    exact⟨p,eh s p,H,by rcases F with F|F;omega;exact F⟩
   ·rw[IO u]
    by_cases G:ak s b=1/\ky (s.extract b p)=true
    ·rw[Kd G];exact .inr (.inr (.inr (.inr ⟨by decide,by omega⟩)))
    ·rw[IO G]
     rcases h6 with h|h|h|h
     ·exact .inr (.inr (.inr (.inr ⟨u,h⟩)))
     ·exact .inl h
     ·exact .inr (.inl h)
     ·exact .inr (.inr (.inl h))
theorem fw:∀x∈ba,av x 0≠10/\bJ (av x 0)=false/\dh (av x 0)=false/\av x 0≠34/\av x 0≠39/\av x 0≠123/\av x 0<128/\ng (av x 0)=false:=by decide
theorem kd (h:(sg s a).size≠0):∃x∈ba,av x 0=av s a:=by
 obtain⟨G,u,F⟩:=iw s a h;exact⟨_,F,by rw[<-u,aB s a _ 0 (by omega),K0]⟩
theorem nE (h:av s b=10\/bJ (av s b)=true):ak s b=0:=by
 have hc:av s b=10\/av s b=32\/av s b=9\/av s b=13:=by
  rcases h with h|h
  ·exact .inl h
  ·unfold bJ at h;simp at h;omega
 obtain⟨M,u,F⟩:=bH s b (by omega)
 have J:(sg s b).size=0:=by
  apply KG
  intro G;obtain⟨x,H,I⟩:=kd G;obtain⟨y1,y2,_⟩:=fw x H;rw[I]at y1 y2
  rcases h with h|h
  ·exact y1 h
  ·rw[h]at y2;cases y2
 unfold ak;rw[u,F,IO (by rcases hc with h|h|h|h<;>rw[h]<;>decide),IO (by rcases hc with h|h|h|h<;>rw[h]<;>decide),IO (by omega),IO (by omega),IO (by omega),IO (by omega),IO (by omega)]
theorem iV {s:ByteArray}{b:Nat}(h:ak s b≠0):av s b≠10/\bJ (av s b)=false:=by
 refine⟨fun e=>h (nE (.inl e)),?_⟩;cases e:bJ (av s b)with
 |false=>rfl
 |true=>exact absurd (nE (.inr e)) h
theorem fp (I:cB s T b f) (J:b<s.size) (F:ak s b=k) (u:k≠0) (M:aC s b k=(p,0)) :
  ((p<s.size\/k=4\/k=5\/k=8)->cB s (T++[bh s k b p f]) p 0)/\(p=s.size->scn s=(T++[bh s k b p f],0,0)):=by
 obtain⟨G,H⟩:=iV (s:=s) (b:=b) (by rw[F];exact u);refine⟨fun h=>?_,fun h=>?_⟩
 ·subst F;exact .tok I J G H u M h
 ·rw[I.scn,vO J G H F u M,oS s p 0 (by omega)]
theorem fY (I:cB s T b f) (J:b<s.size) (F:ak s b=k) (u:k≠0) (O:aC s b k=(p,e)) (M:e≠0):scn s=(T,e,p):=by
 obtain⟨G,H⟩:=iV (s:=s) (b:=b) (by rw[F];exact u);rw[I.scn,EA J G H F u O M,KP]
theorem wH (G:cB s T b f) (H:b<s.size) (u:av s b≠10) (F:bJ (av s b)=false) (I:ak s b=0):scn s=(T,100,b):=by
 rw[G.scn,Bv H u F I,KP]
theorem cG (h:e≠101):¬fI s e a:=fun u=>h u.1
theorem mL (s:ByteArray) (b k:Nat) (u:k=1\/k=3):aC s b k=run (cW s b k) s.size b 0:=by
 unfold aC;rw[IO (by omega),IO (by omega),IO (by omega),IO (by omega),IO (by omega)]
theorem kc (s:ByteArray) (b:Nat):aC s b 4=run (bS s b 34 false) s.size (b+1) 0:=by unfold aC;rw[Kd rfl]
theorem ka (s:ByteArray) (b:Nat):aC s b 5=run (bS s b 39 true) s.size (b+1) 0:=by unfold aC;rw[IO (by decide),Kd rfl]
theorem uC (s:ByteArray) (b:Nat):aC s b 7=run (bK s b false) s.size b 0:=by unfold aC;rw[IO (by decide),IO (by decide),Kd rfl]
theorem j9 (s:ByteArray) (b:Nat):aC s b 8=run (bK s b true) s.size b 0:=by unfold aC;rw[IO (by decide),IO (by decide),IO (by decide),Kd rfl]
theorem Dg (s:ByteArray) (b:Nat):aC s b 6=(b+(sg s b).size,0):=by unfold aC;rw[IO (by decide),IO (by decide),IO (by decide),IO (by decide),Kd rfl]
theorem ql (F:k=1\/k=3) (G:b<=p) (h:jT (cW s b k) b 0 p m) (H:p<s.size) (hc:¬((k=1/\(gd s p&&jL (dp s p))=false)\/(k=3/\dh (av s p)=false))) :
  (65535<p+dw s p-b->aC s b k=(b,103))/\(¬65535<p+dw s p-b->jT (cW s b k) b 0 (p+dw s p) (m+1)):=by
 refine⟨fun u=>?_,fun u=>.step h ?_⟩
 ·rw[mL s b k F,(h.same (eV s b k) (by omega)).2.2];refine bA (by omega) ?_;unfold cW;rw[IO (by omega),IO hc,Kd u]
 ·unfold cW;rw[IO (by omega),IO hc,IO u]
theorem qm (F:k=1\/k=3) (H:b<=p) (h:jT (cW s b k) b 0 p m) (G:p<=s.size) (hc:p<s.size->((k=1/\(gd s p&&jL (dp s p))=false)\/(k=3/\dh (av s p)=false))):aC s b k=(p,0):=by
 rw[mL s b k F,(h.same (eV s b k) (by omega)).2.2];refine bA G ?_;unfold cW
 by_cases u:s.size<=p
 ·rw[Kd u]
 ·rw[IO u,Kd (hc (by omega))]
theorem Ee (h:MS s b p 1) (F:p<s.size) (hc:(gd s p&&jL (dp s p))=true):ak s b=1/\(65535<p+dw s p-b->aC s b 1=(b,103))/\(¬65535<p+dw s p-b->MS s b (p+dw s p) 1):=by
 cases h with
 |name h1 h2 h3=>
  have:=ql (.inl rfl) (by omega) h3 F (by rintro(⟨_,h⟩|⟨h,_⟩);rw[hc]at h;cases h;omega);exact⟨h2,this.1,fun u=>.name (by omega) h2 (this.2 u)⟩
theorem fx (h:MS s b p 1) (u:p<=s.size) (hc:p<s.size->(gd s p&&jL (dp s p))=false):ak s b=1/\aC s b 1=(p,0):=by
 cases h with
 |name h1 h2 h3=>exact⟨h2,qm (.inl rfl) (by omega) h3 u (fun F=>.inl ⟨rfl,hc F⟩)⟩
theorem GQ (h:MS s b p 2) (F:p<s.size) (hc:dh (av s p)=true):ak s b=3/\(65535<p+dw s p-b->aC s b 3=(b,103))/\(¬65535<p+dw s p-b->MS s b (p+dw s p) 2):=by
 cases h with
 |num h1 h2 h3=>
  have:=ql (.inr rfl) (by omega) h3 F (by rintro(⟨h,_⟩|⟨_,h⟩);omega;rw[hc]at h;cases h);exact⟨h2,this.1,fun u=>.num (by omega) h2 (this.2 u)⟩
theorem gE (h:MS s b p 2) (u:p<=s.size) (hc:p<s.size->dh (av s p)=false):ak s b=3/\aC s b 3=(p,0):=by
 cases h with
 |num h1 h2 h3=>exact⟨h2,qm (.inr rfl) (by omega) h3 u (fun F=>.inr ⟨rfl,hc F⟩)⟩
theorem sK {s:ByteArray}{b q:Nat}(F:q<=s.size) (O:b+2<=q\/q=s.size) (hb:b<=q):sg (s.extract b q) 0=sg s b:=by
 unfold sg;rw[ij ba (fun x I=>?_)];have M:x.size<=2:=by rcases dF x I with h|⟨h,_⟩<;>omega
 have J:=ag s b q F;unfold pre;rw[KR,J,Km];constructor
 ·rintro⟨G,u⟩;exact⟨by omega,by rw[cX s b q 0 x.size F (by omega) (Kj _),K0]at u;exact u⟩
 ·rintro⟨G,u⟩;have H:x.size<=q-b:=by omega
  exact⟨H,by rw[cX s b q 0 x.size F (by omega) (Kj _),K0];exact u⟩
def dj:ByteArray:=⟨#[47,47]⟩
theorem DA:∀x∈ba,av x 0=47->x.size=1:=by decide
theorem kS:dj∉ba:=fun h=>by
 have:=DA _ h rfl;cases this
theorem jj {s:ByteArray}{b q:Nat}(O:q<=s.size) (hb:b<=q):s.extract b q=dj↔(q=b+2/\av s b=47/\av s (b+1)=47):=by
 have F:=ag s b q O;have ht:dj.size=2:=rfl;constructor
 ·intro h;have H:q-b=2:=by rw[<-F,h,ht]
  have u:=aB s b q 0 (by omega);have G:=aB s b q 1 (by omega);rw[h]at u G;exact⟨by omega,by rw[K0]at u;rw[<-u];rfl,by rw[<-G];rfl⟩
 ·rintro⟨H,I,J⟩;refine aU _ _ (by rw[F,ht];omega) (fun j M=>?_);rw[F]at M;rw[aB s b q j (by omega)]
  rcases(show j=0\/j=1 by omega)with rfl|rfl
  ·rw[K0,I];rfl
  ·rw[J];rfl
theorem zL (h:(sg s b).size≠0) (u:¬(av s b=47/\b+1<s.size/\av s (b+1)=47)):ak s b=6:=by
 obtain⟨x,F,G⟩:=kd h;obtain⟨y1,y2,y3,y4,y5,y6,y7,y8⟩:=fw x F;rw[G]at y1 y2 y3 y4 y5 y6 y7 y8;obtain⟨e1,e2,e3⟩:=bH s b y7;unfold ak;rw[e2,e3,MT,IO (by rw[y8];decide),IO (by rw[y3];decide),IO y4,IO y5,IO u,IO y6,Kd h]
theorem wX (h:MS s b p 3) (J:p<s.size) (hl:s.extract b (p+dw s p)=dj):MS s b (p+dw s p) 4/\¬65535<p+dw s p-b:=by
 obtain⟨d1,d2,H⟩:=aM s p J;cases h with
 |sign h1 h2 h3=>
  obtain⟨e1,F,G⟩:=(jj H (by omega)).1 hl;have u:p=b+1:=by omega
  have hd:dw s p=1:=by omega
  have I:ak s b=7:=by
   obtain⟨c1,c2,c3⟩:=bH s b (by omega);unfold ak;rw[c2,c3,F,MT,IO (by decide),IO (by decide),IO (by decide),IO (by decide),Kd ⟨rfl,by omega,G⟩]
  have M:bK s b false b 0=.on 1:=by
   unfold bK;rw[IO (by omega),IO (by rw[F];simp),IO (by omega),IO (by simp)]
  have O:bK s b false (b+1) 1=.on 1:=by
   unfold bK;rw[IO (by omega),IO (by rw[G];simp),IO (by omega),IO (by simp)]
  refine⟨?_,by omega⟩;rw[hd,u];exact .line (by omega) I (.step (.step .refl M) O)
theorem Dz (h:MS s b p 3) (hp:p<s.size) (hs:p-b<(sg (s.extract b (p+dw s p)) 0).size):MS s b (p+dw s p) 3/\¬65535<p+dw s p-b:=by
 obtain⟨d1,d2,I⟩:=aM s p hp;cases h with
 |sign h1 h2 h3=>
  have h4:=sJ (s.extract b (p+dw s p)) 0;have aa:p=b+1:=by omega
  obtain⟨M,G,O⟩:=iw (s.extract b (p+dw s p)) 0 (by omega);have H:(sg (s.extract b (p+dw s p)) 0).size=2:=by omega
  obtain⟨_,F⟩:=qe _ O;rw[H]at F M G
  have J:av s p<128:=by
   have u:=aB (s.extract b (p+dw s p)) 0 (0+2) 1 (by omega);rw[G,aB s b _ (0+1) (by omega)]at u;rw[show b+(0+1)=p by omega]at u;rw[<-u];exact F
  have hd:=(bH s p J).1;exact⟨.sign (by omega) I (by rw[H];omega),by omega⟩
theorem fs (h:MS s b p 3) (hp:p<=s.size) (hl:p<s.size->s.extract b (p+dw s p)≠dj) (hs:p<s.size->¬p-b<(sg (s.extract b (p+dw s p)) 0).size):ak s b=6/\aC s b 6=(p,0):=by
 cases h with
 |sign h1 h2 h3=>
  have hsz:(sg s b).size=p-b:=by
   by_cases u:p<s.size
   ·obtain⟨d1,d2,d3⟩:=aM s p u;have h4:=sK (s:=s) (b:=b) (q:=p+dw s p) d3 (.inl (by omega)) (by omega);have h5:=hs u;rw[h4]at h5
    by_cases h6:b+2<=p
    ·rw[<-sK (s:=s) (b:=b) (q:=p) h2 (.inl h6) (by omega)];exact h3
    ·have h7:(sg s b).size≠0:=by
      intro e;have I:(sg (s.extract b p) 0).size=1:=by omega
      obtain⟨g1,F,H⟩:=iw (s.extract b p) 0 (by omega);rw[I]at g1 F
      have G:pre s b (sg (s.extract b p) 0)=true:=by
       unfold pre;refine Ku ⟨by omega,?_⟩;rw[I,<-F,cX s b p 0 (0+1) h2 (by omega) (by omega)];rfl
      have J:(ba.find? (pre s b)).isSome=true:=Ms.2 ⟨_,H,G⟩;obtain⟨x,hx⟩:=LO.1 J;have O:=Li hx;unfold sg at e;rw[hx]at e;have e':x.size=0:=e
      rcases dF x O with h|⟨h,_⟩<;>omega
     omega
   ·rw[<-sK (s:=s) (b:=b) (q:=p) h2 (.inr (by omega)) (by omega)];exact h3
  have hk:ak s b=6:=by
   refine zL (by omega) ?_;rintro⟨e1,e2,e3⟩
   by_cases h6:b+2<=p
   ·obtain⟨g1,F,H⟩:=iw s b (by omega);have I:=sJ s b;have J:(sg s b).size=2:=by omega
    rw[J]at F;refine kS ?_;rw[<-(jj (s:=s) (b:=b) (q:=b+2) (by omega) (by omega)).2 ⟨rfl,e1,e3⟩,F];exact H
   ·have u:p<s.size:=by omega
    have M:p=b+1:=by omega
    refine hl u ((jj (aM s p u).2.2 (by omega)).2 ⟨?_,e1,e3⟩);have:=(bH s p (by rw[M];omega)).1;omega
  refine⟨hk,?_⟩;rw[Dg,hsz,show b+(p-b)=p by omega]
theorem uc (h:jT (bK s b o) b 0 p m):∀n,p+n<=s.size->p+n<=b+65535->(∀j,p<=j->j<p+n->(o=false->av s j≠10)/\(o=true->av s j≠125))->∃u,jT (bK s b o) b 0 (p+n) u
 |0,_,_,_=>⟨m,h⟩
 |n+1,h1,h2,h3=>by
  obtain⟨u,F⟩:=uc h n (by omega) (by omega) (fun j G H=>h3 j G (by omega));obtain⟨x1,x2⟩:=h3 (p+n) (by omega) (by omega);refine⟨u+1,?_⟩;rw[show p+(n+1)=(p+n)+1 by omega];refine .step F ?_;unfold bK;rw[IO (by omega),IO (fun h=>x1 h.1 h.2),IO (by omega),IO (fun h=>x2 h.1 h.2)]
theorem rO (hb:b<=p) (hl:p<=b+65535) (h:jT (bK s b o) b 0 p m) (M:p<s.size) (hc:(o=false->av s p≠10)/\(o=true->av s p≠125)) :
  (65535<p+dw s p-b->run (bK s b o) s.size b 0=(b,103))/\(¬65535<p+dw s p-b->∃H,jT (bK s b o) b 0 (p+dw s p) H):=by
 obtain⟨d1,d2,I⟩:=aM s p M
 have u:∀j,p<=j->j<p+dw s p->(o=false->av s j≠10)/\(o=true->av s j≠125):=fun j G O=>by
  by_cases e:j=p
  ·rw[e];exact hc
  ·have:=(eD s p (j-p) (by omega) (by omega)).2;rw[show p+(j-p)=j by omega]at this;exact⟨fun _=>by omega,fun _=>by omega⟩
 refine⟨fun J=>?_,fun J=>uc h (dw s p) I (by omega) u⟩;obtain⟨H,F⟩:=uc h (b+65535-p) (by omega) (by omega) (fun j G O=>u j G (by omega));rw[show p+(b+65535-p)=b+65535 by omega]at F;rw[(F.same (ce s b o) (by omega)).2.2];obtain⟨x1,x2⟩:=u (b+65535) (by omega) (by omega);refine bA (by omega) ?_;unfold bK;rw[IO (by omega),IO (fun h=>x1 h.1 h.2),Kd (by omega)]
theorem Ej (h:MS s b p 4) (G:p<s.size) (F:av s p≠10):ak s b=7/\(65535<p+dw s p-b->aC s b 7=(b,103))/\(¬65535<p+dw s p-b->MS s b (p+dw s p) 4):=by
 have hl:=h.len;cases h with
 |line h1 h2 h3=>
  obtain⟨c1,c2⟩:=rO hl.1 hl.2 h3 G ⟨fun _=>F,fun h=>by cases h⟩;exact⟨h2,fun u=>by rw[uC];exact c1 u,fun u=>by obtain⟨m',h4⟩:=c2 u;exact .line (by omega) h2 h4⟩
theorem lw (h:MS s b p 4) (G:p<=s.size) (u:p<s.size->av s p=10):ak s b=7/\aC s b 7=(p,0):=by
 cases h with
 |line h1 h2 h3=>
  refine⟨h2,?_⟩;rw[uC,(h3.same (ce s b false) (by omega)).2.2];refine bA G ?_;unfold bK
  by_cases F:s.size<=p
  ·rw[Kd F];rfl
  ·rw[IO F,Kd ⟨rfl,u (by omega)⟩]
theorem Cm (h:MS s b p 5) (F:p<s.size) (hc:av s p≠125):ak s b=8/\(65535<p+dw s p-b->aC s b 8=(b,103))/\(¬65535<p+dw s p-b->MS s b (p+dw s p) 5):=by
 have hl:=h.len;cases h with
 |block h1 h2 h3=>
  obtain⟨c1,c2⟩:=rO hl.1 hl.2 h3 F ⟨fun h=>(by cases h),fun _=>hc⟩;exact⟨h2,fun u=>by rw[j9];exact c1 u,fun u=>by obtain⟨m',h4⟩:=c2 u;exact .block (by omega) h2 h4⟩
theorem uj (h:MS s b p 5) (F:p<s.size) (hc:av s p=125):ak s b=8/\(65535<p+dw s p-b->aC s b 8=(b,103))/\(¬65535<p+dw s p-b->aC s b 8=(p+dw s p,0)):=by
 cases h with
 |block h1 h2 h3=>
  have hd:=(bH s p (by omega)).1;refine⟨h2,fun u=>?_,fun u=>?_⟩
  ·rw[j9,(h3.same (ce s b true) (by omega)).2.2];refine bA (by omega) ?_;unfold bK;rw[IO (by omega),IO (by simp),Kd (by omega)]
  ·rw[j9,(h3.same (ce s b true) (by omega)).2.2,hd];refine bA (by omega) ?_;unfold bK;rw[IO (by omega),IO (by simp),IO (by omega),Kd ⟨rfl,hc⟩]
theorem lR {s:ByteArray}{b:Nat}(h:MS s b s.size 5):ak s b=8/\aC s b 8=(b,101):=by
 cases h with
 |block h1 h2 h3=>
  refine⟨h2,?_⟩;rw[j9,(h3.same (ce s b true) (by omega)).2.2];refine bA (ge _) ?_;unfold bK;rw[Kd (ge _),Kd rfl]
theorem uZ (h:jT (bS s f q o) a m p k) (G:∀j,f<=j->j<a->av s j≠10):∀j,f<=j->j<p->av s j≠10:=by
 refine h.inv (fun d=>∀j,f<=j->j<d->av s j≠10) ?_ G;intro d j n F H i I J;obtain⟨O,M,rfl⟩:=gC H
 rcases LL i d with u|u
 ·exact F i I u
 ·exact Fa M u J
theorem qV (F:b<=p) (G:p<s.size) (u:av s p=10) (hc:av s b≠123):¬fI s 101 b:=by
 rintro⟨_,h|h⟩
 ·exact hc h
 ·exact h ⟨p,F,G,u⟩
theorem mM (h:MS s b p 6) (I:p<=s.size) (u:p<s.size->av s p=10):ak s b=4/\aC s b 4=(b,101)/\(p<s.size->¬fI s 101 b)/\(p=s.size->fI s 101 b):=by
 cases h with
 |text h1 h2 h3=>
  have O:=(iW s b).1 h2;refine⟨h2,?_,fun F=>qV (by omega) F (u F) (by omega),fun F=>⟨rfl,.inr ?_⟩⟩
  ·rw[kc,(h3.same (bU s b 34 false) (by omega)).2.2];refine bA I ?_;unfold bS;rw[Kd (by by_cases H:s.size<=p;exact .inl H;exact .inr (u (by omega)))]
  ·rintro⟨j,G,J,M⟩;exact uZ h3 (fun j G J=>by rw[show j=b by omega];omega) j G (by omega) M
theorem wM (h:MS s b p 6) (G:p<s.size) (F:av s p≠10) (u:65535<p+dw s p-b):ak s b=4/\aC s b 4=(b,103):=by
 cases h with
 |text h1 h2 h3=>
  refine⟨h2,?_⟩;rw[kc,(h3.same (bU s b 34 false) (by omega)).2.2];refine bA (by omega) ?_;unfold bS;rw[IO (by omega),Kd u]
theorem zw (h:MS s b p 6) (H:p<s.size) (G:av s p≠10) (u:¬65535<p+dw s p-b) (hc:eI s p=true):ak s b=4/\aC s b 4=(p,102):=by
 cases h with
 |text h1 h2 h3=>
  refine⟨h2,?_⟩
  have F:av s p≠34:=by
   intro e;unfold eI at hc;rw[(bH s p (by omega)).2.1,e]at hc;simp at hc
  rw[kc,(h3.same (bU s b 34 false) (by omega)).2.2];refine bA (by omega) ?_;unfold bS;rw[IO (by omega),IO u,IO (fun h=>F h.1),Kd (.inl hc)]
theorem wN (h:MS s b p 6) (G:p<s.size) (F:av s p=34) (u:¬65535<p+dw s p-b):ak s b=4/\aC s b 4=(p+dw s p,0):=by
 cases h with
 |text h1 h2 h3=>
  refine⟨h2,?_⟩;rw[kc,(h3.same (bU s b 34 false) (by omega)).2.2,(bH s p (by omega)).1];refine bA (by omega) ?_;unfold bS;rw[IO (by omega),IO u,Kd ⟨F,.inl rfl⟩]
theorem Dj (h:MS s b p 6) (H:p<s.size) (G:av s p≠10) (u:¬65535<p+dw s p-b) (hc:eI s p=false) (F:av s p≠34):MS s b (p+dw s p) 6:=by
 cases h with
 |text h1 h2 h3=>
  refine .text (by omega) h2 (.step h3 ?_);unfold bS;rw[IO (by omega),IO u,IO (fun h=>F h.1),IO (by rintro(h|⟨h,_⟩);rw[hc]at h;cases h;cases h)]
theorem gS (h:MS s b p k) (hk:k=7\/k=8) (hp:p<=s.size) (F:p<s.size->av s p=10):ak s b=5/\aC s b 5=(b,101)/\(p<s.size->¬fI s 101 b)/\(p=s.size->fI s 101 b):=by
 have G:∀m,b<p->ak s b=5->jT (bS s b 39 true) (b+1) 0 p m->ak s b=5/\aC s b 5=(b,101)/\(p<s.size->¬fI s 101 b)/\(p=s.size->fI s 101 b):=fun m I u H=>by
  have aa:=(iW s b).2.1 u;refine⟨u,?_,fun J=>qV (by omega) J (F J) (by omega),fun J=>⟨rfl,.inr ?_⟩⟩
  ·rw[ka,(H.same (bU s b 39 true) (by omega)).2.2];refine bA hp ?_;unfold bS;rw[Kd (by by_cases O:s.size<=p;exact .inl O;exact .inr (F (by omega)))]
  ·rintro⟨j,M,j2,j3⟩;exact uZ H (fun j M j2=>by rw[show j=b by omega];omega) j M (by omega) j3
 cases h with
 |char I u=>exact G 0 (by omega) u (by rw[I];exact .refl)
 |quote I u H=>exact G 1 (by omega) u H
 |none _=>omega
 |name _ _ _=>omega
 |num _ _ _=>omega
 |sign _ _ _=>omega
 |line _ _ _=>omega
 |block _ _ _=>omega
 |text _ _ _=>omega
theorem rQ (h:MS s b p 7) (u:p<s.size) (F:av s p≠10) (hc:eI s p=true\/av s p=39):ak s b=5/\aC s b 5=(p,102):=by
 cases h with
 |char h1 h2=>
  refine⟨h2,?_⟩;obtain⟨G,H,I⟩:=aM s p u;subst h1;rw[ka];refine bA (by omega) ?_;unfold bS;rw[IO (by omega),IO (by omega),IO (by simp),Kd (by rcases hc with h|h;exact .inl h;exact .inr ⟨rfl,.inr h⟩)]
theorem Fc (h:MS s b p 7) (u:p<s.size) (G:av s p≠10) (hc:eI s p=false) (F:av s p≠39):MS s b (p+dw s p) 8/\¬65535<p+dw s p-b:=by
 cases h with
 |char h1 h2=>
  obtain⟨H,I,J⟩:=aM s p u;subst h1;refine⟨.quote (by omega) h2 (.step .refl ?_),by omega⟩;unfold bS;rw[IO (by omega),IO (by omega),IO (by simp),IO (by rintro(h|⟨_,h|h⟩);rw[hc]at h;cases h;cases h;exact F h)]
theorem xh (h:MS s b p 8) (u:p<s.size) (H:av s p≠10) (F:av s p≠39):ak s b=5/\aC s b 5=(p,102):=by
 cases h with
 |quote h1 h2 h3=>
  refine⟨h2,?_⟩;obtain⟨I,J,M⟩:=aM s p u
  have O:p<=b+5:=by
   cases h3 with
   |step h5 h6=>
    cases h5 with
    |refl=>
     obtain⟨G,_,rfl⟩:=gC h6;have:=(aM s (b+1) G).2.1;omega
  rw[ka,(h3.same (bU s b 39 true) (by omega)).2.2];refine bA (by omega) ?_;unfold bS;rw[IO (by omega),IO (by omega),IO (fun h=>F h.1),Kd (.inr ⟨rfl,.inl rfl⟩)]
theorem sY (h:MS s b p 8) (u:p<s.size) (F:av s p=39):ak s b=5/\aC s b 5=(p+dw s p,0)/\¬65535<p+dw s p-b:=by
 cases h with
 |quote h1 h2 h3=>
  obtain⟨H,I,J⟩:=aM s p u
  have M:p<=b+5:=by
   cases h3 with
   |step h5 h6=>
    cases h5 with
    |refl=>
     obtain⟨G,_,rfl⟩:=gC h6;have:=(aM s (b+1) G).2.1;omega
  refine⟨h2,?_,by omega⟩;rw[ka,(h3.same (bU s b 39 true) (by omega)).2.2,(bH s p (by omega)).1];refine bA (by omega) ?_;unfold bS;rw[IO (by omega),IO (by omega),Kd ⟨F,.inr rfl⟩]
def nF (s:ByteArray) (p:Nat):Nat:=
 if(gd s p&&ng (dp s p))=true then 1 else if dh (av s p)=true then 2 else if av s p=34 then 6 else if av s p=39 then 7 else if av s p=123 then 5 else if(sg s p).size≠0 then 3 else 0
theorem Cp (hp:p<s.size) (h:nF s p=0):ak s p=0:=by
 unfold nF at h;unfold ak
 by_cases c1:(gd s p&&ng (dp s p))=true
 ·rw[Kd c1]at h;cases h
 ·rw[IO c1]at h
  by_cases c2:dh (av s p)=true
  ·rw[Kd c2]at h;cases h
  ·rw[IO c2]at h
   by_cases c3:av s p=34
   ·rw[Kd c3]at h;cases h
   ·rw[IO c3]at h
    by_cases c4:av s p=39
    ·rw[Kd c4]at h;cases h
    ·rw[IO c4]at h
     by_cases c5:av s p=123
     ·rw[Kd c5]at h;cases h
     ·rw[IO c5]at h
      by_cases c6:(sg s p).size≠0
      ·rw[Kd c6]at h;cases h
      ·have J:av s p≠47:=by
        intro F
        apply c6
        have u:pre s p ⟨#[47]⟩=true:=by
         unfold pre;refine Ku ⟨by show p+1<=_;omega,?_⟩;refine aU _ _ (by rw[ag s p _ (by show p+1<=_;omega)];show p+1-p=1;omega) (fun j H=>?_);rw[ag s p _ (by show p+1<=_;omega)]at H;have aa:j<p+1-p:=H;obtain rfl:j=0:=by omega
         rw[aB s p _ 0 (by show p+0<p+1;omega),K0,F];rfl
        have O:(ba.find? (pre s p)).isSome=true:=Ms.2 ⟨_,by unfold ba;repeat(first|exact Ko ..|apply KA),u⟩;obtain⟨x,I⟩:=LO.1 O;have G:=Li I;unfold sg;rw[I];show x.size≠0
        rcases dF x G with M|⟨M,_⟩<;>omega
       rw[IO c1,IO c2,IO c3,IO c4,IO (fun h=>J h.1),IO c5,IO c6]
theorem Hx (hp:p<s.size) (h:nF s p=k) (h0:k≠0):MS s p (p+dw s p) k/\¬65535<p+dw s p-p:=by
 obtain⟨d1,d2,d3⟩:=aM s p hp;refine⟨?_,by omega⟩;unfold nF at h
 by_cases c1:(gd s p&&ng (dp s p))=true
 ·rw[Kd c1]at h;subst h;refine .name (by omega) (by unfold ak;rw[Kd c1]) (.step .refl ?_);rw[Lo]at c1;unfold cW;rw[IO (by omega),IO (by rintro(⟨_,h⟩|⟨h,_⟩);rw[c1.1,qC c1.2]at h;cases h;cases h),IO (by omega)]
 ·rw[IO c1]at h
  by_cases c2:dh (av s p)=true
  ·rw[Kd c2]at h;subst h;refine .num (by omega) (by unfold ak;rw[IO c1,Kd c2]) (.step .refl ?_);unfold cW;rw[IO (by omega),IO (by rintro(⟨h,_⟩|⟨_,h⟩);cases h;rw[c2]at h;cases h),IO (by omega)]
  ·rw[IO c2]at h
   by_cases c3:av s p=34
   ·rw[Kd c3]at h;subst h;rw[(bH s p (by omega)).1];exact .text (by omega) (by unfold ak;rw[IO c1,IO c2,Kd c3]) .refl
   ·rw[IO c3]at h
    by_cases c4:av s p=39
    ·rw[Kd c4]at h;subst h;rw[(bH s p (by omega)).1];exact .char rfl (by unfold ak;rw[IO c1,IO c2,IO c3,Kd c4])
    ·rw[IO c4]at h
     by_cases c5:av s p=123
     ·rw[Kd c5]at h;subst h;rw[(bH s p (by omega)).1];refine .block (by omega) (by unfold ak;rw[IO c1,IO c2,IO c3,IO c4,IO (by omega),Kd c5]) (.step .refl ?_);unfold bK;rw[IO (by omega),IO (by simp),IO (by omega),IO (by omega)]
     ·rw[IO c5]at h
      by_cases c6:(sg s p).size≠0
      ·rw[Kd c6]at h;subst h;obtain⟨x,M,O⟩:=kd c6;have J:=(fw x M).2.2.2.2.2.2.1;rw[O]at J;have hd:=(bH s p J).1;obtain⟨y,y1,y2,y3⟩:=kT x M;rw[hd];refine .sign (by omega) (by omega) ?_;have hz:=ag s p (p+1) (by omega)
       have G:pre (s.extract p (p+1)) 0 y=true:=by
        unfold pre;refine Ku ⟨by omega,?_⟩;rw[Km,y2];refine aU _ _ (by rw[ag _ 0 1 (by omega),y2]) (fun j hj=>?_);rw[ag _ 0 1 (by omega)]at hj;obtain rfl:j=0:=by omega
        rw[aB _ 0 1 0 (by omega),aB s p _ (0+0) (by omega),y3,O];rfl
       have h9:(ba.find? (pre (s.extract p (p+1)) 0)).isSome=true:=Ms.2 ⟨_,y1,G⟩;obtain⟨u,H⟩:=LO.1 h9;have I:=Li H;have F:=List.find?_some H;unfold pre at F;have aa:=(KQ F).1;have:(sg (s.extract p (p+1)) 0).size=u.size:=by unfold sg;rw[H];rfl
       rw[this]
       rcases dF u I with h8|⟨h8,_⟩<;>omega
      ·rw[IO c6]at h;exact absurd h.symm h0
theorem ie (u:k=1\/k=3\/k=6):¬gW s (bh s k b s.size f):=by
 unfold gW bh;simp only;rw[IO (show ¬k=7 by omega)]
 by_cases h:k=1/\ky (s.extract b s.size)=true
 ·rw[Kd h];omega
 ·rw[IO h];omega
theorem EZ (h:jT (bK s f false) a m p k) (I:a=f):∀j,f<=j->j<p->av s j≠10:=by
 refine h.inv (fun d=>∀j,f<=j->j<d->av s j≠10) ?_ (fun j M O=>by omega);intro d j n u F i G J;obtain⟨_,rfl,H⟩:=o7 F
 by_cases e:i=d
 ·rw[e];exact H rfl
 ·exact u i G (by omega)
theorem iq (u:k<=8):(bh s k b p f).k<=8:=by
 show(if k=1/\ky (s.extract b p)=true then 2 else k)<=8
 split<;>omega
theorem GU (G:cB s T b f) (J:MS s b s.size k) :
  (scn s=(T,0,0)/\b=s.size)\/(∃t,scn s=(T++[t],0,0)/\t.a=b/\t.a<=t.e/\t.e<=s.size/\t.k<=8/\¬gW s t/\b<s.size)\/(scn s=(T,101,b)/\fI s 101 b/\b<s.size):=by
 cases J with
 |none h=>left;refine⟨?_,h⟩;rw[G.scn,oS s b f (by omega),KP]
 |name h1 h2 h3=>
  obtain⟨u,F⟩:=fx (.name h1 h2 h3) (ge _) (fun h=>by omega);exact .inr (.inl ⟨_,(fp G h1 u (by decide) F).2 rfl,rfl,by show b<=s.size;omega,ge _,iq (by decide),ie (.inl rfl),h1⟩)
 |num h1 h2 h3=>
  obtain⟨u,F⟩:=gE (.num h1 h2 h3) (ge _) (fun h=>by omega);exact .inr (.inl ⟨_,(fp G h1 u (by decide) F).2 rfl,rfl,by show b<=s.size;omega,ge _,iq (by decide),ie (.inr (.inl rfl)),h1⟩)
 |sign h1 h2 h3=>
  obtain⟨u,F⟩:=fs (.sign h1 h2 h3) (ge _) (fun h=>by omega) (fun h=>by omega);exact .inr (.inl ⟨_,(fp G h1 u (by decide) F).2 rfl,rfl,by show b<=s.size;omega,ge _,iq (by decide),ie (.inr (.inr rfl)),h1⟩)
 |line h1 h2 h3=>
  obtain⟨u,F⟩:=lw (.line h1 h2 h3) (ge _) (fun h=>by omega);have I:=iV (s:=s) (b:=b) (by rw[h2];decide);have ht:=gA s b I.2 s.size (by omega);have M:=EZ h3 rfl;refine .inr (.inl ⟨_,(fp G (by omega) u (by decide) F).2 rfl,rfl,by show b<=aV s s.size;omega,eh s s.size,iq (by decide),?_,by omega⟩);rintro(h|h|h|⟨_,h⟩|⟨h,_⟩)
  ·cases h
  ·cases h
  ·cases h
  ·obtain⟨j,O,j2,j3⟩:=h;have aa:aV s s.size<=j:=O;exact M j (by omega) j2 j3
  ·exact h rfl
 |block h1 h2 h3=>
  obtain⟨u,F⟩:=lR (.block h1 h2 h3);exact .inr (.inr ⟨fY G h1 u (by decide) F (by decide),⟨rfl,.inl ((iW s b).2.2.1 h2)⟩,h1⟩)
 |text h1 h2 h3=>
  obtain⟨u,F,_,H⟩:=mM (.text h1 h2 h3) (ge _) (fun h=>by omega);exact .inr (.inr ⟨fY G h1 u (by decide) F (by decide),H rfl,h1⟩)
 |char h1 h2=>
  obtain⟨u,F,_,H⟩:=gS (.char h1 h2) (.inl rfl) (ge _) (fun h=>by omega);exact .inr (.inr ⟨fY G (by omega) u (by decide) F (by decide),H rfl,by omega⟩)
 |quote h1 h2 h3=>
  obtain⟨u,F,_,H⟩:=gS (.quote h1 h2 h3) (.inr rfl) (ge _) (fun h=>by omega);exact .inr (.inr ⟨fY G (by omega) u (by decide) F (by decide),H rfl,by omega⟩)
theorem qO {m':Nat}(G:1<=m) (H:m<m') (I:m'<=s.size) (F:opn (s.extract (s.size-m) s.size)=true) (u:opn (s.extract (s.size-m') s.size)=true):False:=by
 have z:=ag s (s.size-m) s.size (ge _);have z':=ag s (s.size-m') s.size (ge _);have a:=jv _ (by omega) F;have b:=(mX _ (by omega) u).2.2 (m' - m) (by omega) (by omega);rw[aB s _ _ 0 (by omega)]at a;rw[aB s _ _ (m' - m) (by omega)]at b;rw[show s.size-m'+(m' - m)=s.size-m+0 by omega]at b;exact a b
theorem Iz (G:1<=m) (O:m<=3) (H:m<=s.size) (u:opn (s.extract (s.size-m) s.size)=true):wh s=s.size-m:=by
 rcases fm s with⟨_,h⟩|⟨m',I,g2,J,M,F⟩
 ·rw[h m G O H]at u;cases u
 ·rcases OB m m' with h|h|h
  ·exact(qO G h J u F).elim
  ·rw[h];exact M
  ·exact(qO I h H F u).elim
theorem Gf {s:ByteArray}(h:∀m,1<=m->m<=3->m<=s.size->opn (s.extract (s.size-m) s.size)=false):wh s=s.size:=by
 rcases fm s with⟨I,_⟩|⟨J,F,G,H,M,u⟩
 ·exact I
 ·rw[h J F G H]at u;cases u
theorem jJ (a c:ByteArray) (m:Nat) (u:m<=c.size):(a++c).extract ((a++c).size-m) (a++c).size=c.extract (c.size-m) c.size:=by
 have h:=ik a c (c.size-m) c.size (ge _);rw[<-h,ax,show a.size+c.size-m=a.size+(c.size-m)by omega]
theorem AE {t:ByteArray}(G:0<t.size) (h:opn (t++c)=true):opn t=true:=by
 have u:∀X,CJ (t++c) X=true->opn t=true:=fun X F=>by
  unfold CJ at F;rw[Lo,jE]at F;have H:=KQ F.2;rw[ax]at H;exact AD t (c++X) G (by omega)
 unfold opn at h;rw[MI]at h
 rcases h with h|h
 ·exact u _ h
 ·exact u _ h
def bZ (S:ByteArray):ByteArray:=S.extract (wh S) S.size
theorem iE (S:ByteArray):(bZ S).size=S.size-wh S:=ag S _ _ (ge _)
theorem ip (S x:ByteArray):S++x=bp S++(bZ S++x):=ze S x
theorem j6 (S x:ByteArray):wh (S++x)=wh S+wh (bZ S++x):=by
 have hz:=bI S;have ho:=iE S;have hw:=cC S;rw[ip S x];obtain⟨c,hc⟩:∃c,bZ S++x=c:=⟨_,rfl⟩;rw[hc];have O:=ax (bp S) c
 rcases fm c with⟨h1,h2⟩|⟨m,I,J,M,h3,h4⟩
 ·rw[h1];rw[Gf (s:=bp S++c) ?_]
  ·omega
  ·intro m I J M
   by_cases hm:m<=c.size
   ·rw[jJ (bp S) c m hm];exact h2 m I J hm
   ·cases u:opn ((bp S++c).extract ((bp S++c).size-m) (bp S++c).size)with
    |false=>rfl
    |true=>
     exfalso
     have e:=oV (bp S) c ((bp S).size-(m-c.size)) (by omega);rw[show(bp S).size-(m-c.size)=(bp S++c).size-m by omega]at e;rw[<-e]at u;have tz:=ag (bp S) ((bp S++c).size-m) (bp S).size (ge _);have F:0<((bp S).extract ((bp S++c).size-m) (bp S).size).size:=by omega
     rcases fm S with⟨f1,f2⟩|⟨m0,n1,n3,nz,f3,f4⟩
     ·have e2:bp S=S:=by unfold bp;rw[f1];exact dJ S
      have H:=AE F u;rw[e2]at H M O;rw[show(S++c).size-m=S.size-(m-c.size)by omega]at H;rw[f2 (m-c.size) (by omega) (by omega) (by omega)]at H;cases H
     ·have G:0<(bZ S).size:=by omega
      have e3:bZ S=S.extract (S.size-m0) S.size:=by unfold bZ;rw[f3]
      have h6:=jv (bZ S) G (by rw[e3];exact f4);have aa:c.size=(bZ S).size+x.size:=by rw[<-hc,ax]
      obtain⟨X,hX⟩:∃X,(bp S).extract ((bp S++c).size-m) (bp S).size=X:=⟨_,rfl⟩;rw[hX]at u F;have ab:=ax X c;have h7:=(mX (X++c) (by omega) u).2.2 (X.size+0) (by omega) (by omega);rw[ui,<-hc,bj _ _ 0 G]at h7;exact h6 h7
 ·rw[Iz I J (by omega) (by rw[jJ (bp S) c m M];exact h4),h3];omega
theorem BE (a c:ByteArray) (n:Nat) (h:n<=c.size):(a++c).extract 0 (a.size+n)=a++c.extract 0 n:=by
 have I:=ax a c;have F:=ag (a++c) 0 (a.size+n) (by omega);have G:=ag c 0 n h;refine aU _ _ (by rw[F,ax,G];omega) (fun j H=>?_);rw[F]at H;rw[dM _ _ j (by omega),bQ,bQ]
 by_cases u:j<a.size
 ·rw[Kd u,Kd u]
 ·rw[IO u,IO u,dM c n _ (by omega)]
theorem kG (S x:ByteArray):bp (S++x)=bp S++bp (bZ S++x):=by
 have h:=j6 S x;show(S++x).extract 0 (wh (S++x))=_;rw[h,ip S x,<-bI S,BE _ _ _ (cC _).1];rfl
theorem cJ (s:ByteArray):s++ByteArray.empty=s:=aU _ _ (by rw[ax];rfl) (fun j u=>by rw[ax]at u;rw[bQ,Kd (by simpa using u)])
theorem rX (S x:ByteArray):so (bp S) (bp (bZ S++x)) (bp S).size:=by
 refine⟨ge _,fun i G=>?_,fun i u F=>by omega⟩;rw[bI]at G;have u:=fE (S++x) ByteArray.empty i (by rw[j6];omega);rw[cJ]at u;have F:=fE S x i G;rw[<-kG];exact u.symm.trans F
theorem rW (S:ByteArray):so (bp S) (bZ S) (bp S).size:=by
 have:=Fk S ByteArray.empty;rw[cJ]at this;exact this
theorem AI (S x:ByteArray):bZ (S++x)=bZ (bZ S++x):=by
 have h:=j6 S x;have u:=cC (bZ S++x);show(S++x).extract (wh (S++x)) (S++x).size=(bZ S++x).extract (wh (bZ S++x)) (bZ S++x).size;rw[h,ip S x,<-bI S,ax (bp S),ik (bp S) (bZ S++x) _ _ (ge _)]
structure St (S:ByteArray) (T:List Tk) (k b f:Nat):Prop where
 told:cB (bp S) T b f
 ms:MS (bp S) b (bp S).size k
theorem St.zero:St ByteArray.empty [] 0 0 0:=by
 have e:bp ByteArray.empty=ByteArray.empty:=by
  have h:=cC ByteArray.empty;have F:ByteArray.empty.size=0:=rfl;refine aU _ _ (by rw[bI,F];omega) (fun j u=>by rw[bI]at u;omega)
 refine⟨.nil,.none ?_⟩;rw[e];rfl
theorem St.feed (h:St S T k b f) (x:ByteArray):cB (bp (S++x)) T b f/\MS (bp (S++x)) b (bp S).size k:=by
 rw[kG];exact⟨h.told.more (rX S x),h.ms.more (rX S x) (ge _)⟩
theorem St.close (h:St S T k b f):cB S T b f/\MS S b (bp S).size k:=by
 have e:=ip S ByteArray.empty;rw[cJ,cJ]at e;have u:=h.told.more (rW S);have F:=h.ms.more (rW S) (ge _);rw[<-e]at u F;exact⟨u,F⟩
theorem qM (s c:ByteArray) (a:Nat) (h:a<=s.size):pL (s++c) a=pL s a/\pC (s++c) a=pC s a:=by
 unfold pL pC;rw[eC s c 0 a h];exact⟨rfl,rfl⟩
