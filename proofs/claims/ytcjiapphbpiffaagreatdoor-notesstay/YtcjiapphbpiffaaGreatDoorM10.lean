import Derived.Test.YtcjiapphbpiffaaGreatDoorM09
set_option linter.unusedVariables false
set_option linter.unusedSimpArgs false
namespace Go.Proofs.YtcjiapphbpiffaaGreatDoor.Lx
open Go.RowKit
variable {s R:ByteArray}{k a p:Nat}
theorem JE {s x:ByteArray}{a:Nat}(M:x∈aZ) (F:x.size=2) (O:a+1<s.size) (G:ay x 0=ay s a) (H:ay x 1=ay s (a+1)):(sg s a).size=2:=by
 have J:pre s a x=true:=by
  unfold pre;rw [F];have z:=av s a (a+2) (by omega);refine Tf ⟨by omega,dr _ _ (by omega) (fun i Q=>?_)⟩;rw [aI s a (a+2) i (by omega)];have C:i=0\/i=1:=by omega
  rcases C with rfl|rfl
  ·exact G.symm
  ·exact H.symm
 have I:=vz x M F;unfold sg;rw [<-TR 4 aZ,VR];cases h:(aZ.take 4).find? (pre s a) with
 |none=>exact absurd J (by simpa using WA.1 h x I)
 |some y=>exact rj y (U1 h)
theorem Lh (ha:a<s.size) (M:ak s a=k) (h0:k≠0) (G:ap s a k=(p,0)) (U:p<s.size):(k=1->(gd s p && iq (dp s p))=false)/\(k=3->cK (ay s p)=false)/\(k=6->p=a+1->(∀x∈aZ,x.size=2->ay x 0=ay s a->ay x 1≠ay s p)/\¬(ay s a=47/\ay s p=47)):=by
 have row:∀k,run (cg s a k) s.size a 0=(p,0)->(k=1/\(gd s p && iq (dp s p))=false)\/(k=3/\cK (ay s p)=false):=by
  intro k Z;have:=cX (cY s a k) (fun _ _=>True) (fun r=>r.2=0->r.1<s.size->(k=1/\(gd s r.1 && iq (dp s r.1))=false)\/(k=3/\cK (ay s r.1)=false)) ?_ (fun _ _ _ _ _ _=>trivial) _ a 0 (gt _) (by omega) trivial
  ·rw [Z] at this;exact this rfl U
  ·intro b m q e _ _ F G Y;have O:e=0:=G;subst O;have aa:q<s.size:=Y;unfold cg at F
   split at F
   ·injection F with C _;subst C;omega
   ·split at F
    ·rename_i C;injection F with J _;subst J;exact C
    ·split at F
     ·exact absurd (Rd.out.inj F).2 (by decide)
     ·cases F
 refine ⟨fun H=>?_,fun H=>?_,fun H I=>?_⟩
 ·subst H
  rcases row 1 G with h|h
  ·exact h.2
  ·exact absurd h.1 (by decide)
 ·subst H
  rcases row 3 G with h|h
  ·exact absurd h.1 (by decide)
  ·exact h.2
 ·subst H
  have hz:(sg s a).size=1:=by
   have:a+(sg s a).size=p:=Tm Prod.fst G;omega
  refine ⟨fun x hx J Q S=>?_,fun h=>?_⟩
  ·have h9:=JE (s:=s) (a:=a) hx J (by omega) Q (by rw [S,I]);omega
  ·unfold ak at M;rw [Eq (fun C=>?_),Eq (fun C=>?_),Eq (by omega),Eq (by omega),IO ⟨h.1,by omega,by rw [<-I];exact h.2⟩] at M
   ·exact absurd M (by decide)
   ·rw [h.1] at C;exact absurd C (by decide)
   ·rw [(bp s a (by omega)).2.1,h.1,kR.2.2,Uz] at C;exact absurd C (by decide)
def spB:ByteArray:=⟨#[32]⟩
def nz (s:ByteArray):List Tk->Nat->ByteArray
 |[],u=>s.extract u s.size
 |t :: r,u=>if t.k=7 then s.extract u t.a++nz s r t.e else if t.k=8 then s.extract u t.a++(spB++nz s r t.e) else nz s r u
theorem ua (s:ByteArray) {u a p:Nat}(F:u<=a) (G:a<=p) (C:p<=s.size):s.extract u p=s.extract u a++s.extract a p:=by
 have I:=av s u a (by omega);have J:=av s a p C;have M:=av s u p C;refine dr _ _ (by rw [aY];omega) (fun i H=>?_);rw [bC,aI s u p i (by omega)]
 split
 ·rw [aI s u a i (by omega)]
 ·rw [aI s a p _ (by omega)];congr 1;omega
theorem iZ (s:ByteArray) (a:Nat):(s.extract a a)=⟨#[]⟩:=by
 refine dr _ _ ?_ (fun i C=>?_)
 ·simp;rfl
 ·simp at C
theorem kO (R:ByteArray):(⟨#[]⟩:ByteArray)++R=R:=by
 refine dr _ _ (by rw [aY];exact Td _) (fun i C=>by rw [bC,Eq (show ¬i<(⟨#[]⟩:ByteArray).size from Nat.not_lt_zero i)];rfl)
theorem sy (s:ByteArray):∀(l:List Tk) (u a:Nat),u<=a->a<=s.size->(∀t∈l,a<=t.a/\t.a<=s.size)->nz s l u=s.extract u a++nz s l a
 |[],u,a,h1,h2,_=>ua s h1 h2 (gt _)
 |t :: r,u,a,h1,h2,h=>by
  obtain ⟨C,F⟩:=h t (S4 ..);have H:=sy s r u a h1 h2 (fun x G=>h x (SZ _ G));unfold nz;rw [ua s h1 C F,H]
  split
  ·rw [Uu]
  ·split
   ·rw [Uu]
   ·rfl
def Nn (R:ByteArray):Prop:=∀g,(ep R 0 g).2.1=0/\∀t∈(ep R 0 g).1,t.k≠7/\t.k≠8
theorem Mu {X R:ByteArray}(h:Nn R) (g:Nat):(ep (X++R) X.size g).2.1=0/\∀t∈(ep (X++R) X.size g).1,t.k≠7/\t.k≠8:=by
 have C:=fe X R _ 0 g (gt _);rw [TS] at C;rw [C];refine ⟨(h g).1,fun t ht=>?_⟩;obtain ⟨t',F,rfl⟩:=UV.1 ht;exact (h g).2 t' F
theorem N3:Nn ⟨#[]⟩:=fun g=>by rw [dq _ _ _ (gt 0)];exact ⟨rfl,fun t ht=>by simp at ht⟩
theorem tD {X:ByteArray}(C:X.size=1) (hc:ay X 0=10\/cq (ay X 0)=true) (h:Nn R):Nn (X++R):=fun g=>by
 have z:(X++R).size=1+R.size:=by rw [aY,C]
 have e:ay (X++R) 0=ay X 0:=cA X R 0 (by omega);rw [bP _ _ _ (by omega),e];have:=fun g=>Mu (X:=X) h g
 rw [C] at this
 split
 ·exact this _
 ·rw [IO (hc.resolve_left (by assumption))];exact this _
theorem N2 {T:ByteArray}(C:Tx k T) (O:k≠7/\k≠8) (hF:IF k T R) (h:Nn R):Nn (T++R):=fun g=>by
 have J:=C.pos;have z:(T++R).size=T.size+R.size:=aY _ _;have F:=qx T dZ R k J C.bg C.k0 C.en hF;have M:=qm T dZ R k J C.bg C.k0 C.en hF;have G:¬ay (T++R) 0=10:=fun e=>C.k0 (by rw [<-F];exact ki (.inl e))
 have H:¬cq (ay (T++R) 0)=true:=fun e=>C.k0 (by rw [<-F];exact ki (.inr e))
 rw [bP (T++R) 0 g (by omega),Eq G,Eq H,Eq (by rw [F];exact C.k0),F,M,Eq (by simp)];have I:=Mu (X:=T) h 0;refine ⟨I.1,fun t ht=>?_⟩
 rcases Tt.1 ht with rfl|ht
 ·show (if k=1/\_ then 2 else k)≠7/\(if k=1/\_ then 2 else k)≠8
  split <;> omega
 ·exact I.2 t ht
theorem FM (s:ByteArray) {R:ByteArray}(h:Nn R):∀(d q p:Nat),p-q<=d->q<=p->p<=s.size->(∀i,q<=i->i<p->cq (ay s i)=true)->Nn (s.extract q p++R)
 |0,q,p,hd,hq,hp,hb=>by
  obtain rfl:q=p:=by omega
  rw [iZ,kO];exact h
 |d+1,q,p,hd,hq,hp,hb=>by
  by_cases e:q=p
  ·subst e;rw [iZ,kO];exact h
  ·rw [ua s (a:=q+1) (by omega) (by omega) hp,Uu];have z:=av s q (q+1) (by omega);refine tD (by omega) (.inr ?_) (FM s h d (q+1) p (by omega) (by omega) hp (fun i F C=>hb i (by omega) C));rw [aI s q (q+1) 0 (by omega)];exact hb q (gt _) (by omega)
def Hd (s R:ByteArray) (a:Nat):Prop:=R.size=0\/ay R 0=10\/cq (ay R 0)=true\/(a<s.size/\ay R 0=ay s a/\ak s a≠0/\ak s a≠7/\ak s a≠8)
theorem Bs (h:ak s a=1):(gd s a && fL (dp s a))=true:=by
 unfold ak at h
 split at h
 ·assumption
 ·repeat' (split at h)
  all_goals exact absurd h (by decide)
theorem Mr:iq (9:Nat)=false/\iq (13:Nat)=false:=by decide
theorem K4 {c:Nat}(T:ByteArray) (h:k≠7) (hc:cq c=true):zw k T c:=by
 have C:c=32\/c=9\/c=13:=by
  unfold cq at hc;simp only [Th,TY] at hc;omega
 refine ⟨by omega,fun _=>⟨by omega,?_⟩,fun _=>?_,fun _ _=>⟨fun x H F _ C=>by have:=(gC x H F).1;omega,fun h=>by omega⟩,fun G=>absurd G h⟩
 ·rcases C with rfl|rfl|rfl
  ·exact gP.2.1
  ·exact Mr.1
  ·exact Mr.2
 ·rcases C with rfl|rfl|rfl <;> rfl
theorem Oj (O:a<s.size) (Q:ak s a=k) (J:k≠0) (U:k≠7/\k≠8) (S:ap s a k=(p,0)) (h:Hd s R p):IF k (s.extract a p) R:=by
 obtain ⟨aa,I⟩:=da s a k p O Q J S;have zT:=av s a p I;have e0:ay (s.extract a p) 0=ay s a:=by rw [aI s a p 0 (by omega),TS]
 by_cases hz:R.size=0
 ·refine ⟨?_,fun _ H=>by omega,fun _ H=>by omega,fun _ _ H=>by omega,fun _ H=>by omega⟩;unfold ob;rw [Eq (by omega)];rfl
 rcases h with h|h|h|⟨hp,h,Y,n7,n8⟩
 ·exact absurd h hz
 ·exact gn (pZ k _) (by omega) h
 ·exact gn (K4 _ U.1 h) (by omega) rfl
 ·refine gn ?_ (by omega) h;obtain ⟨Z,x3,x6⟩:=Lh O Q J S hp;refine ⟨?_,fun e=>?_,x3,fun e hs=>?_,fun e=>absurd e U.1⟩
  ·by_cases G:ak s p=1
   ·intro e2;have F:=Bs G;rw [AU e2] at F;cases F
   ·have:=(ls (s:=s) (a:=p) rfl Y G).1;omega
  ·by_cases G:ak s p=1
   ·have F:=Bs G;have C:=Z e;rw [Tc] at F;rw [F.1,T6] at C;unfold iq at C;rw [F.2] at C;cases C
   ·have M:=(ls (s:=s) (a:=p) rfl Y G).1;obtain ⟨_,c2,c3⟩:=bp s p M;have C:=Z e;rw [c3,c2,T6] at C;exact ⟨M,C⟩
  ·rw [e0];exact x6 e (by omega)
theorem xY (s:ByteArray):∀(d a f:Nat),s.size-a<=d->a<=s.size->(ep s a f).2.1=0->Nn (nz s (ep s a f).1 a)/\Hd s (nz s (ep s a f).1 a) a
 |d,a,f,hd,kS,h0=>by
  by_cases ha:s.size<=a
  ·obtain rfl:a=s.size:=by omega
   rw [dq s _ f ha];unfold nz;rw [iZ];exact ⟨N3,.inl rfl⟩
  rw [bP s a f (by omega)] at h0 ⊢;cases d with
  |zero=>omega
  |succ d=>
  have z1:=av s a (a+1) (by omega);have b1:ay (s.extract a (a+1)) 0=ay s a:=by rw [aI s a (a+1) 0 (by omega),TS]
  have byte:∀F,(ay s a=10\/cq (ay s a)=true)->(ep s (a+1) F).2.1=0->Nn (nz s (ep s (a+1) F).1 a)/\Hd s (nz s (ep s (a+1) F).1 a) a:=by
   intro F hc h;have ih:=(xY s d (a+1) F (by omega) (by omega) h).1;rw [sy s _ a (a+1) (by omega) (by omega) (fun t ht=>by have:=gq s _ (a+1) F (gt _) t ht;omega)];refine ⟨tD (by omega) (by rw [b1];exact hc) ih,?_⟩;have:ay (s.extract a (a+1)++nz s (ep s (a+1) F).1 (a+1)) 0=ay s a:=by rw [cA _ _ 0 (by omega),b1]
   unfold Hd;rw [this]
   rcases hc with h|h
   ·exact .inr (.inl h)
   ·exact .inr (.inr (.inl h))
  split at h0
  ·rename_i O
   rw [IO O];exact byte _ (.inl O) h0
  ·rename_i O
   rw [Eq O]
   split at h0
   ·rename_i Q
    rw [IO Q];exact byte _ (.inr Q) h0
   ·rename_i Q
    rw [Eq Q]
    split at h0
    ·exact absurd (show (100:Nat)=0 from h0) (by decide)
    ·rename_i I
     rw [Eq I]
     split at h0
     ·rename_i S;exact absurd h0 S
     ·rename_i S
      rw [Eq S];have H:ap s a (ak s a)=((ap s a (ak s a)).1,0):=VU rfl (by simpa using S);obtain ⟨aa,G⟩:=da s a _ _ (by omega) rfl I H;have C:=Ez s a _ _ (by omega) rfl I H;obtain ⟨p,hpp⟩:∃p,(ap s a (ak s a)).1=p:=⟨_,rfl⟩;rw [hpp] at H aa G C h0 ⊢;obtain ⟨k,hk⟩:∃k,ak s a=k:=⟨_,rfl⟩;have Z:(ep s p 0).2.1=0:=h0;obtain ⟨i1,i2⟩:=xY s d p 0 (by omega) G Z;have ad:=fun t ht=>gq s _ p 0 (gt _) t ht
      have hcut:∀u,u<=p->nz s (ep s p 0).1 u=s.extract u p++nz s (ep s p 0).1 p:=fun u hu=>sy s _ u p hu G (fun t ht=>by have:=ad t ht;omega)
      rw [hk] at H C I ⊢;show Nn (nz s (bS s k a p f :: (ep s p 0).1) a)/\Hd s (nz s (bS s k a p f :: (ep s p 0).1) a) a;unfold nz;have J:(bS s k a p f).k=if k=1/\ky (s.extract a p)=true then 2 else k:=rfl
      have ab:(bS s k a p f).a=a:=rfl;have ac:(bS s k a p f).e=if k=7 then aV s p else p:=rfl
      rw [ab,ac,iZ,kO]
      by_cases U:k=7
      ·subst U;have M:=dG s p;rw [IO (show (bS s 7 a p f).k=7 from rfl),IO rfl,hcut _ M];have hr:run (bF s a false) s.size a 0=(p,0):=H;obtain ⟨_,_,y3⟩:=uw s a (by omega) p hr;have hg:=wI s p G;refine ⟨FM s i1 _ _ p (gt _) M G (gj s p),?_⟩;have zq:=av s (aV s p) p G
       by_cases hq:aV s p=p
       ·rw [hq,iZ,kO]
        rcases i2 with i|i|i|⟨i,_,n0,_⟩
        ·exact .inl i
        ·exact .inr (.inl i)
        ·exact .inr (.inr (.inl i))
        ·exact absurd (ki (.inl (y3.resolve_left (by omega)))) n0
       ·refine .inr (.inr (.inl ?_));rw [cA _ _ 0 (by omega),aI s _ p 0 (by omega),TS];exact gj s p _ (gt _) (by omega)
      ·by_cases Y:k=8
       ·subst Y;rw [Eq (show ¬(bS s 8 a p f).k=7 from (by decide:¬(8:Nat)=7)),IO (show (bS s 8 a p f).k=8 from rfl),Eq (by decide),kO];refine ⟨tD rfl (.inr rfl) i1,.inr (.inr (.inl ?_))⟩;rw [cA _ _ 0 (by decide)];rfl
       ·have n7:¬(bS s k a p f).k=7:=by rw [J];split <;> omega
        have n8:¬(bS s k a p f).k=8:=by rw [J];split <;> omega
        rw [Eq n7,Eq n8,hcut a (by omega)];rw [Eq U] at C;refine ⟨N2 C ⟨U,Y⟩ (Oj (by omega) hk I ⟨U,Y⟩ H i2) i1,.inr (.inr (.inr ⟨by omega,?_,by omega,by omega,by omega⟩))⟩;have zT:=av s a p G;rw [cA _ _ 0 (by omega),aI s a p 0 (by omega),TS]
termination_by d=>d
theorem BU (h:(cV s).2.1=0) {T:ByteArray}(H:nz s (cV s).1 0=T):(cV T).2.1=0/\(∀t∈(cV T).1,t.k≠7/\t.k≠8)/\nz T (cV T).1 0=T:=by
 obtain ⟨F,C⟩:=(xY s _ 0 0 (gt _) (SW _) h).1 0;rw [show nz s (ep s 0 0).1 0=T from H] at F C;refine ⟨F,C,?_⟩
 have:∀l:List Tk,(∀t∈l,t.k≠7/\t.k≠8)->nz T l 0=T.extract 0 T.size:=by
  intro l
  induction l with
  |nil=>intro _;rfl
  |cons t r ih=>
   intro h;have G:=h t (S4 ..);unfold nz;rw [Eq G.1,Eq G.2];exact ih (fun x I=>h x (SZ _ I))
 exact (this _ C).trans (rQ T)
end Go.Proofs.YtcjiapphbpiffaaGreatDoor.Lx
