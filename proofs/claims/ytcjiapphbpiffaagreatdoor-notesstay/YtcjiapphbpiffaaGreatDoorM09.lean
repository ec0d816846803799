import Derived.Test.YtcjiapphbpiffaaGreatDoorM08
set_option linter.unusedVariables false
set_option linter.unusedSimpArgs false
namespace Go.Proofs.YtcjiapphbpiffaaGreatDoor.Lx
open Go.RowKit
variable {k a z P:Nat}{T s:ByteArray}
theorem rQ (T:ByteArray):T.extract 0 T.size=T:=by
 have z:=av T 0 T.size (gt _);exact dr _ _ (by rw [z];omega) (fun i C=>by rw [aI T 0 T.size i (by omega),Td])
theorem kZ (T R:ByteArray):(T++R).extract 0 T.size=T:=by rw [rR T R 0 T.size (gt _),rQ]
theorem OI (T R:ByteArray) (i:Nat) (C:i<T.size) (hd:i+dw (T++R) i<=T.size):Utf8.decode T i=Utf8.decode (T++R) i:=by
 have h:=Lv (T++R) 0 T.size i (SW _) (by rw [aY];omega) (by omega) (by rw [Td];exact hd);rw [kZ,Td] at h;exact h
theorem qu (T C F:ByteArray) (h:ct (ob F 0)=false) (i:Nat) (G:i<T.size) (hd:i+dw (T++C) i<=T.size):gd (T++F) i=gd (T++C) i/\dp (T++F) i=dp (T++C) i/\dw (T++F) i=dw (T++C) i:=by
 have e:Utf8.decode (T++F) i=Utf8.decode (T++C) i:=(Dt T F h i G).trans (OI T C i G hd);unfold gd dp dw;rw [e];exact ⟨rfl,rfl,rfl⟩
theorem fD (T C F:ByteArray) (i:Nat) (G:i<T.size):ay (T++F) i=ay (T++C) i:=by rw [cA T F i G,cA T C i G]
theorem iI {g H:Nat->Nat->Rd}{J:Nat}(I:gw g z) (F:gw H J) (Z:P<=J) (G:∀b m p,g b m=.out p 0->b<=p)
  (M:∀b m,b<=P->g b m=.out P 0->H b m=.out P 0) (O:∀b m n,g b m=.on n->b+n<=P->H b m=.on n) :
  ∀(d a m:Nat),z-a<=d->a<=z->run g z a m=(P,0)->a<=P/\run H J a m=(P,0)
 |d,a,m,hd,ha,h=>by
  cases e:g a m with
  |out p q=>
   rw [cB ha e] at h;injection h with hp hq
   subst hp hq;have C:=G a m p e;exact ⟨C,cB (by omega) (M a m C e)⟩
  |on n=>
   obtain ⟨h3,S⟩:=I a m n e;rw [fK I ha e] at h;cases d with
   |zero=>omega
   |succ d=>
    obtain ⟨U,Y⟩:=iI I F Z G M O d (a+n) (m+1) (by omega) S h;have Q:=O a m n e U;exact ⟨by omega,by rw [fK F (by omega) Q];exact Y⟩
structure IF (k:Nat) (T R:ByteArray):Prop where
 nc:ct (ob R 0)=false
 f1:k=1->0<R.size->ay R 0<128/\iq (ay R 0:Nat)=false
 f3:k=3->0<R.size->cK (ay R 0)=false
 f6:k=6->T.size=1->0<R.size->(∀x∈aZ,x.size=2->ay x 0=ay T 0->ay x 1≠ay R 0)/\¬(ay T 0=47/\ay R 0=47)
 f7:k=7->0<R.size->ay R 0=10
theorem Hx (s:ByteArray) (a:Nat):ak s a=0\/ak s a=1\/ak s a=3\/ak s a=4\/ak s a=5\/ak s a=6\/ak s a=7\/ak s a=8:=by
 unfold ak
 repeat' split
 all_goals simp
theorem B2:∀x∈aZ.drop 4,x.size=1:=by decide
theorem vz (x:ByteArray) (F:x∈aZ) (h:x.size=2):x∈aZ.take 4:=by
 rw [<-TR 4 aZ] at F
 rcases To.1 F with C|C
 ·exact C
 ·have:=B2 x C;omega
theorem rj:∀x∈aZ.take 4,x.size=2:=by decide
theorem yd:∀x∈aZ,x.size=1\/x.size=2:=by decide
theorem Gv {f:ByteArray->Bool}{y:ByteArray}(h:aZ.find? f=some y) (H:y.size=1):∀x∈aZ,x.size=2->f x=false:=by
 intro x G F;rw [<-TR 4 aZ,VR] at h;cases C:(aZ.take 4).find? f with
 |none=>
  have:=WA.1 C x (vz x G F)
  simpa using this
 |some z=>
  rw [C] at h;cases h;have:=rj y (U1 C);omega
theorem Ap (T R:ByteArray) (x:ByteArray) (h:x.size<=T.size):pre (T++R) 0 x=pre T 0 x:=by
 unfold pre;rw [Td,rR T R 0 x.size h]
 apply UF.2
 rw [aY];constructor
 ·exact fun C=>⟨h,C.2⟩
 ·exact fun C=>⟨by omega,C.2⟩
theorem zY (T C G:ByteArray) (Q:0<T.size) (h:(sg (T++C) 0).size=T.size) (hF:IF 6 T G):sg (T++G) 0=sg (T++C) 0:=by
 unfold sg
 have F:sg (T++C) 0=T:=by
  obtain ⟨J,H,_⟩:=jS (T++C) 0 (by omega);rw [h,Td,kZ] at H;exact H.symm
 have aa:T∈aZ:=by rw [<-F];exact (jS (T++C) 0 (by omega)).2.2
 have hf:aZ.find? (pre (T++C) 0)=some T:=by
  unfold sg at F;cases S:aZ.find? (pre (T++C) 0) with
  |none=>rw [S] at F;exfalso;rw [<-F] at Q;exact absurd Q (by decide)
  |some y=>rw [S] at F;exact Tm some F
 rw [qg (g:=pre (T++C) 0)];intro x M
 rcases Vy T.size x.size with ab|I
 ·have H:x.size=2:=by rcases yd x M with e|e <;> omega
  have J:T.size=1:=by omega
  rw [Gv hf J x M H];unfold pre
  apply Tg
  rintro ⟨U,O⟩;rw [aY] at U
  have Y:ay x 0=ay T 0:=by
   rw [<-O,aI _ 0 _ 0 (by omega),Td,cA T G 0 (by omega)]
  have Z:ay x 1=ay G 0:=by
   rw [<-O,aI _ 0 _ 1 (by omega),bC,Eq (by omega),J]
  exact (hF.f6 rfl J (by omega)).1 x M H Y Z
 ·rw [Ap T G x I,Ap T C x I]
theorem qm (T G F:ByteArray) (k:Nat) (hT:0<T.size) (hb:ak (T++G) 0=k) (h0:k≠0) (Q:ap (T++G) 0 k=(T.size,0)) (hF:IF k T F):ap (T++F) 0 k=(T.size,0):=by
 have z0:(T++G).size=T.size+G.size:=aY _ _;have z1:(T++F).size=T.size+F.size:=aY _ _
 have Z:∀q o,q<128->run (cE (T++G) 0 q o) (T++G).size (0+1) 0=(T.size,0)->run (cE (T++F) 0 q o) (T++F).size (0+1) 0=(T.size,0):=by
  intro q o hq h;refine (iI (fp _ _ _ _) (fp _ _ _ _) (by omega) (fun b m p=>JW _ _ _ _ b m p) ?_ ?_ _ 1 0 (gt _) (by omega) h).2
  ·intro b m Y C;unfold cE at C ⊢
   split at C
   ·first|exact absurd (Rd.out.inj C).2 (by decide)|cases C
   ·rename_i S
    split at C
    ·first|exact absurd (Rd.out.inj C).2 (by decide)|cases C
    ·rename_i M
     split at C
     ·rename_i J
      injection C with hp _
      have H:b<T.size:=by omega
      have c0:=bp (T++G) b (by rw [J.1];exact hq);have I:=fD T G F b H;have c1:=bp (T++F) b (by rw [I,J.1];exact hq);rw [c0.1] at M;rw [Eq (by rw [I];omega),c1.1,Eq M,I,IO J,hp]
     ·split at C
      ·first|exact absurd (Rd.out.inj C).2 (by decide)|cases C
      ·first|exact absurd (Rd.out.inj C).2 (by decide)|cases C
  ·intro b m n C O;unfold cE at C ⊢
   split at C
   ·cases C
   ·rename_i S
    split at C
    ·cases C
    ·rename_i M
     split at C
     ·cases C
     ·rename_i J
      split at C
      ·cases C
      ·rename_i h4
       injection C with hn
       have ab:1<=n:=by
        have:=fp (T++G) 0 q o b m n (by unfold cE;rw [Eq S,Eq M,Eq J,Eq h4,hn]);exact this.1
       have H:b<T.size:=by omega
       have I:=fD T G F b H;obtain ⟨d1,d2,d3⟩:=qu T G F hF.nc b H (by rw [hn];exact O);have ec:gy (T++F) b=gy (T++G) b:=by unfold gy;rw [d1,d2]
       rw [Eq (by rw [I];omega),d3,Eq M,I,Eq J,ec,Eq h4,hn]
 have U:∀o,(o=false->0<F.size->ay F 0=10)->run (bF (T++G) 0 o) (T++G).size 0 0=(T.size,0)->run (bF (T++F) 0 o) (T++F).size 0 0=(T.size,0):=by
  intro o ho h;refine (iI (dm _ _ _) (dm _ _ _) (by omega) (fun b m p=>Bg _ _ _ b m p) ?_ ?_ _ 0 0 (gt _) (by omega) h).2
  ·intro b m Y C;unfold bF at C ⊢
   by_cases H:b=T.size
   ·have ac:o=false:=by
     cases o with
     |false=>rfl
     |true=>
      exfalso
      split at C
      ·simp at C
      ·simp at C
       split at C
       ·exact absurd (Rd.out.inj C).2 (by decide)
       ·split at C
        ·have:=(Rd.out.inj C).1;omega
        ·cases C
    subst ac;rw [H]
    by_cases hR:F.size=0
    ·rw [IO (by omega)];rfl
    ·have I:ay (T++F) T.size=10:=by rw [bC,Eq (Nat.lt_irrefl _),VB];exact ho rfl (by omega)
     rw [Eq (by omega),IO ⟨rfl,I⟩]
   ·have aa:b<T.size:=by omega
    have I:=fD T G F b aa;rw [Eq (by omega)] at C ⊢;rw [I];exact C
  ·intro b m n C O;unfold bF at C ⊢
   split at C
   ·split at C <;> cases C
   ·split at C
    ·cases C
    ·split at C
     ·cases C
     ·split at C
      ·cases C
      ·rename_i S M J h4
       injection C with hn
       have I:=fD T G F b (by omega);rw [Eq (by omega),I,Eq M,Eq J,Eq h4,hn]
 have row:(k=1\/k=3)->run (cg (T++G) 0 k) (T++G).size 0 0=(T.size,0)->run (cg (T++F) 0 k) (T++F).size 0 0=(T.size,0):=by
  intro hk h;refine (iI (cY _ _ _) (cY _ _ _) (by omega) (fun b m p=>Ac _ _ _ b m p) ?_ ?_ _ 0 0 (gt _) (by omega) h).2
  ·intro b m Y C
   have H:b=T.size:=by
    unfold cg at C
    split at C
    ·injection C
    ·split at C
     ·injection C
     ·split at C
      ·first|exact absurd (Rd.out.inj C).2 (by decide)|cases C
      ·first|exact absurd (Rd.out.inj C).2 (by decide)|cases C
   rw [H];unfold cg
   by_cases hR:F.size=0
   ·rw [IO (by omega)]
   ·have I:ay (T++F) T.size=ay F 0:=by rw [bC,Eq (by omega),VB]
    rw [Eq (by omega),IO ?_]
    rcases hk with rfl|rfl
    ·obtain ⟨f1,f2⟩:=hF.f1 rfl (by omega);obtain ⟨c1,c2,c3⟩:=bp (T++F) T.size (by rw [I];exact f1);refine .inl ⟨rfl,?_⟩;rw [c3,c2,I,f2];rfl
    ·exact .inr ⟨rfl,by rw [I];exact hF.f3 rfl (by omega)⟩
  ·intro b m n C O;unfold cg at C ⊢
   split at C
   ·cases C
   ·rename_i S
    split at C
    ·cases C
    ·rename_i M
     split at C
     ·cases C
     ·rename_i J
      injection C with hn
      have ab:=(cY (T++G) 0 k b m n (by unfold cg;rw [Eq S,Eq M,Eq J,hn])).1;have H:b<T.size:=by omega
      have I:=fD T G F b H;obtain ⟨d1,d2,d3⟩:=qu T G F hF.nc b H (by rw [hn];exact O);rw [Eq (by omega),d1,d2,I,Eq M,d3,Eq J,hn]
 unfold ap at Q ⊢
 rcases Hx (T++G) 0 with e|e|e|e|e|e|e|e <;> rw [hb] at e <;> subst e
 ·exact absurd rfl h0
 ·exact row (.inl rfl) Q
 ·exact row (.inr rfl) Q
 ·exact Z 34 false (by decide) Q
 ·exact Z 39 true (by decide) Q
 ·have hz:(sg (T++G) 0).size=T.size:=by
   have:0+(sg (T++G) 0).size=T.size:=Tm Prod.fst Q;omega
  show (0+(sg (T++F) 0).size,0)=_
  rw [zY T G F hT hz hF,hz,Td]
 ·exact U false (fun _ h=>hF.f7 rfl h) Q
 ·exact U true (fun e=>by cases e) Q
theorem B5:∀x∈aZ,ay x 0<128:=by decide
theorem EJ {g:Nat->Nat->Rd}{m:Nat}(F:gw g z) (C:∀b m p,g b m=.out p 0->b<=p) (H:a<=z) (G:P<=z) (h:run g z a m=(P,0)):a<=P:=
 (iI F F G C (fun _ _ _ h=>h) (fun _ _ _ h _=>h) _ a m (gt _) H h).1
theorem ls {s:ByteArray}{a k:Nat}(C:ak s a=k) (I:k≠0) (J:k≠1):ay s a<128/\(gd s a && fL (dp s a))=false:=by
 unfold ak at C
 split at C
 ·exact absurd C.symm J
 ·rename_i M
  refine ⟨?_,by simpa using M⟩
  split at C
  ·rename_i h;simp only [cK,Tc,Tz] at h;omega
  ·split at C
   ·omega
   ·split at C
    ·omega
    ·split at C
     ·omega
     ·split at C
      ·omega
      ·split at C
       ·rename_i h
        obtain ⟨O,G,H⟩:=jS s a h;have F:=B5 _ H;rw [<-G,aI s a _ 0 (by omega),TS] at F;exact F
       ·exact absurd C.symm I
theorem qx (T C G:ByteArray) (k:Nat) (hT:0<T.size) (F:ak (T++C) 0=k) (h0:k≠0) (he:ap (T++C) 0 k=(T.size,0)) (hF:IF k T G):ak (T++G) 0=k:=by
 have z0:(T++C).size=T.size+C.size:=aY _ _;have z1:(T++G).size=T.size+G.size:=aY _ _;have e8:=fD T C G 0 hT
 by_cases O:k=1
 ·subst O
  have hl:(gd (T++C) 0 && fL (dp (T++C) 0))=true:=by
   unfold ak at F
   split at F
   ·assumption
   ·repeat' (split at F)
    all_goals exact absurd F (by decide)
  have I:run (cg (T++C) 0 1) (T++C).size 0 0=(T.size,0):=he
  have hd:0+dw (T++C) 0<=T.size:=by
   cases H:cg (T++C) 0 1 0 0 with
   |out p e=>
    rw [cB (SW _) H] at I;unfold cg at H;rw [Eq (by omega)] at H;rw [Tc] at hl;have hp:(gd (T++C) 0 && iq (dp (T++C) 0))=true:=by rw [hl.1];unfold iq;rw [hl.2];rfl
    rw [Eq (by rintro (⟨_,h⟩|⟨h,_⟩);rw [hp] at h;cases h;cases h)] at H
    split at H
    ·have h1:=(Rd.out.inj H).2;have h2:e=0:=Tm Prod.snd I;omega
    ·cases H
   |on n=>
    have hn:n=dw (T++C) 0:=by
     unfold cg at H
     repeat' (split at H)
     all_goals first|(cases H;done)|(injection H with H;exact H.symm)
    rw [fK (cY _ _ _) (SW _) H,hn] at I;have hz:=(cY (T++C) 0 1 0 0 n H).2;exact EJ (cY _ _ _) (fun b m p=>Ac _ _ _ b m p) (by omega) (by omega) I
  obtain ⟨d1,d2,_⟩:=qu T C G hF.nc 0 hT hd;unfold ak;rw [IO (by rw [d1,d2];exact hl)]
 ·obtain ⟨ha,S⟩:=ls F h0 O;obtain ⟨c1,c2,c3⟩:=bp (T++C) 0 ha;obtain ⟨d1,d2,d3⟩:=bp (T++G) 0 (by rw [e8];exact ha)
  have Z:¬(gd (T++G) 0 && fL (dp (T++G) 0))=true:=by
   have e:(gd (T++G) 0 && fL (dp (T++G) 0))=(gd (T++C) 0 && fL (dp (T++C) 0)):=by rw [d3,d2,c3,c2,e8]
   rw [e,S];decide
  have Y:¬(gd (T++C) 0 && fL (dp (T++C) 0))=true:=by rw [S];decide
  unfold ak at F ⊢;rw [Eq Y] at F;rw [Eq Z,e8]
  split at F
  ·rename_i h;rw [IO h];exact F
  ·rename_i h3
   rw [Eq h3]
   split at F
   ·rename_i h;rw [IO h];exact F
   ·rename_i h4
    rw [Eq h4]
    split at F
    ·rename_i h;rw [IO h];exact F
    ·rename_i h5
     rw [Eq h5]
     split at F
     ·rename_i J
      subst F;have I:run (bF (T++C) 0 false) (T++C).size 0 0=(T.size,0):=he
      have g0:bF (T++C) 0 false 0 0=.on 1:=by
       unfold bF;rw [Eq (by omega),Eq (by omega),Eq (by omega),Eq (by simp)]
      have g1:bF (T++C) 0 false 1 1=.on 1:=by
       unfold bF;rw [Eq (by omega),Eq (by rw [show (0:Nat)+1=1 from rfl] at J;omega),Eq (by omega),Eq (by simp)]
      rw [fK (dm _ _ _) (SW _) g0,fK (dm _ _ _) (by omega) g1] at I;have ab:=EJ (dm _ _ _) (fun b m p=>Bg _ _ _ b m p) (by omega) (by omega) I;rw [IO ⟨J.1,by omega,by rw [fD T C G (0+1) (by omega)];exact J.2.2⟩]
     ·rename_i J
      have aa:¬(ay (T++C) 0=47/\0+1<(T++G).size/\ay (T++G) (0+1)=47)\/k≠6:=by
       by_cases Q:k=6
       ·refine .inl (fun ⟨x1,x2,x3⟩=>?_)
        by_cases ab:1<T.size
        ·rw [fD T C G (0+1) (by omega)] at x3;exact J ⟨x1,by omega,x3⟩
        ·have M:T.size=1:=by omega
         rw [bC,Eq (by omega),M] at x3;rw [cA T C 0 hT] at x1;exact (hF.f6 Q M (by omega)).2 ⟨x1,x3⟩
       ·exact .inr Q
      split at F
      ·rename_i h;rw [Eq (by omega),IO h];exact F
      ·rename_i U
       split at F
       ·rename_i hs
        subst F
        have hz:(sg (T++C) 0).size=T.size:=by
         have:0+(sg (T++C) 0).size=T.size:=Tm Prod.fst he;omega
        rw [Eq (aa.resolve_right (fun h=>h rfl)),Eq U,zY T C G hT hz hF,IO hs]
       ·exact absurd F.symm h0
structure Tx (k:Nat) (T:ByteArray):Prop where
 pos:0<T.size
 k0:k≠0
 bg:ak (T++dZ) 0=k
 en:ap (T++dZ) 0 k=(T.size,0)
 bl:k=7->cq (ay T (T.size-1))=false
theorem SI:dZ.size=1:=rfl
theorem gP:iq (10:Nat)=false/\iq (32:Nat)=false/\fL (10:Nat)=false/\fL (32:Nat)=false/\fL (9:Nat)=false/\fL (13:Nat)=false:=by decide
theorem Gt (k:Nat) (T:ByteArray):IF k T dZ:=by
 refine ⟨rfl,fun _ _=>⟨by decide,gP.1⟩,fun _ _=>rfl,fun _ G _=>⟨fun x F H _ C=>?_,fun h=>?_⟩,fun _ _=>rfl⟩
 ·rcases EF x F with h|h
  ·omega
  ·exact h.2 C
 ·exact absurd h.2 (by decide)
def Kg (c:Nat):Prop:=c≠32/\c≠10
theorem rk:∀x∈aZ,(ay x 0≠32/\ay x 0≠10/\ay x 0≠9/\ay x 0≠13)/\ay x (x.size-1)≠32/\ay x (x.size-1)≠10:=by decide
theorem ki (h:ay s a=10\/cq (ay s a)=true):ak s a=0:=by
 have C:ay s a=10\/ay s a=32\/ay s a=9\/ay s a=13:=by
  rcases h with h|h
  ·exact .inl h
  ·unfold cq at h;simp only [Th,TY] at h;omega
 obtain ⟨c1,c2,c3⟩:=bp s a (by omega)
 have G:fL (dp s a:Nat)=false:=by
  rw [c2]
  rcases C with e|e|e|e <;> rw [e]
  ·exact gP.2.2.1
  ·exact gP.2.2.2.1
  ·exact gP.2.2.2.2.1
  ·exact gP.2.2.2.2.2
 unfold ak;rw [Eq (by rw [G,Uz];decide),Eq (by unfold cK;rcases C with e|e|e|e <;> rw [e] <;> decide),Eq (by omega),Eq (by omega),Eq (by omega),Eq (by omega),Eq ?_];intro H;obtain ⟨e1,e2,e3⟩:=jS s a H;have F:=(rk _ e3).1;rw [<-e2,aI s a _ 0 (by omega),TS] at F;omega
theorem Hl (s:ByteArray) (b:Nat) (F:1<=dw s b) (G:b<s.size) (h:ay s (b+dw s b-1)<128):dw s b=1:=by
 apply TF;intro C
 have:=(jI s b (dw s b-1) (by omega) (by omega)).2;rw [show b+(dw s b-1)=b+dw s b-1 by omega] at this;omega
theorem uw (s:ByteArray) (f:Nat) (O:f<=s.size) (p:Nat) (h:run (bF s f false) s.size f 0=(p,0)):p<=f+65535/\(∀i,f<=i->i<p->ay s i≠10)/\(s.size<=p\/ay s p=10):=by
 have:=cX (dm s f false) (fun b _=>f<=b/\b<=f+65535/\∀i,f<=i->i<b->ay s i≠10) (fun r=>r.2=0->r.1<=f+65535/\(∀i,f<=i->i<r.1->ay s i≠10)/\(s.size<=r.1\/ay s r.1=10)) ?_ ?_ _ f 0 (gt _) O ⟨gt _,by omega,fun i I G=>by omega⟩
 ·rw [h] at this;exact this rfl
 ·intro a m p e J F C M;have H:e=0:=M;subst H;unfold bF at C
  split at C
  ·simp at C;subst C;exact ⟨F.2.1,F.2.2,.inl (by assumption)⟩
  ·split at C
   ·rename_i I G;injection C with hp _;subst hp;exact ⟨F.2.1,F.2.2,.inr G.2⟩
   ·split at C
    ·exact absurd (Rd.out.inj C).2 (by decide)
    ·simp at C
 ·intro a m n J F C;unfold bF at C
  split at C
  ·simp at C
  ·split at C
   ·cases C
   ·split at C
    ·cases C
    ·split at C
     ·cases C
     ·rename_i I G U Y
      injection C with hn
      subst hn;refine ⟨by omega,by omega,fun i Q S=>?_⟩
      by_cases e:i=a
      ·subst e;exact fun h=>G ⟨rfl,h⟩
      ·exact F.2.2 i Q (by omega)
theorem I0 (h:Tx k T):Kg (ay T 0)/\Kg (ay T (T.size-1))/\T.size<=65535:=by
 have hT:=h.pos;have hz:(T++dZ).size=T.size+1:=by rw [aY,SI]
 have Q:∀i,i<T.size->ay (T++dZ) i=ay T i:=fun i hi=>cA T dZ i hi
 have h0:Kg (ay T 0):=by
  refine ⟨fun e=>?_,fun e=>?_⟩
  ·exact h.k0 (by rw [<-h.bg];exact ki (.inr (by rw [Q 0 hT,e];rfl)))
  ·exact h.k0 (by rw [<-h.bg];exact ki (.inl (by rw [Q 0 hT,e])))
 refine ⟨h0,?_⟩
 have row:∀k,(k=1\/k=3)->run (cg (T++dZ) 0 k) (T++dZ).size 0 0=(T.size,0)->Kg (ay T (T.size-1))/\T.size<=65535:=by
  intro k hk J;have:=cX (cY (T++dZ) 0 k) (fun b _=>b=0\/(Kg (ay (T++dZ) (b-1))/\b<=65535)) (fun r=>r.2=0->r.1=0\/(Kg (ay (T++dZ) (r.1-1))/\r.1<=65535)) ?_ ?_ _ 0 0 (gt _) (SW _) (.inl rfl)
  ·rw [J] at this
   rcases this rfl with U|U
   ·have M:T.size=0:=U;omega
   ·have M:Kg (ay (T++dZ) (T.size-1))/\T.size<=65535:=U;rw [Q _ (by omega)] at M;exact M
  ·intro a m p e Y I C F;have G:e=0:=F;subst G;unfold cg at C
   split at C
   ·injection C with H _;subst H;exact I
   ·split at C
    ·injection C with H _;subst H;exact I
    ·split at C
     ·exact absurd (Rd.out.inj C).2 (by decide)
     ·cases C
  ·intro a m n Y I C;have af:=(cY (T++dZ) 0 k a m n C).1;unfold cg at C
   split at C
   ·cases C
   ·rename_i U
    split at C
    ·cases C
    ·rename_i h2
     split at C
     ·cases C
     ·rename_i h3
      injection C with hn
      subst hn;refine .inr ⟨?_,by omega⟩
      have ab:∀c,c<128->ay (T++dZ) (a+dw (T++dZ) a-1)=c->ay (T++dZ) a=c:=by
       intro c hc e;have:=Hl (T++dZ) a af (by omega) (by omega);rw [this,VH] at e;exact e
      have no:∀c,c<128->iq (c:Nat)=false->cK c=false->ay (T++dZ) a≠c:=by
       intro c hc H hd e
       apply h2
       rcases hk with rfl|rfl
       ·refine .inl ⟨rfl,?_⟩;rw [(bp (T++dZ) a (by omega)).2.1,e,H,Uz]
       ·exact .inr ⟨rfl,by rw [e];exact hd⟩
      exact ⟨fun e=>no 32 (by decide) gP.2.1 rfl (ab 32 (by decide) e),fun e=>no 10 (by decide) gP.1 rfl (ab 10 (by decide) e)⟩
 have ac:∀q o,(q=34\/q=39)->run (cE (T++dZ) 0 q o) (T++dZ).size (0+1) 0=(T.size,0)->Kg (ay T (T.size-1))/\T.size<=65535:=by
  intro q o hq J;have:=cX (fp (T++dZ) 0 q o) (fun b _=>True) (fun r=>r.2=0->ay (T++dZ) (r.1-1)=q/\r.1<=65535) ?_ ?_ _ 1 0 (gt _) (by omega) trivial
  ·rw [J] at this;obtain ⟨x1,S⟩:=this rfl;have O:ay (T++dZ) (T.size-1)=q:=x1;rw [Q _ (by omega)] at O;exact ⟨⟨by omega,by omega⟩,S⟩
  ·intro a m p e Y I C F;have G:e=0:=F;subst G;unfold cE at C
   split at C
   ·exact absurd (Rd.out.inj C).2 (by decide)
   ·split at C
    ·exact absurd (Rd.out.inj C).2 (by decide)
    ·rename_i U h2
     split at C
     ·rename_i h3
      injection C with H _
      subst H;have:=(bp (T++dZ) a (by omega)).1;exact ⟨by rw [VH];exact h3.1,by show a+1<=65535;omega⟩
     ·split at C
      ·exact absurd (Rd.out.inj C).2 (by decide)
      ·cases C
  ·intro a m n Y I C;trivial
 have blk:run (bF (T++dZ) 0 true) (T++dZ).size 0 0=(T.size,0)->Kg (ay T (T.size-1))/\T.size<=65535:=by
  intro J;have:=cX (dm (T++dZ) 0 true) (fun b _=>True) (fun r=>r.2=0->ay (T++dZ) (r.1-1)=125/\r.1<=65535) ?_ ?_ _ 0 0 (gt _) (SW _) trivial
  ·rw [J] at this;obtain ⟨x1,S⟩:=this rfl;have O:ay (T++dZ) (T.size-1)=125:=x1;rw [Q _ (by omega)] at O;exact ⟨⟨by omega,by omega⟩,S⟩
  ·intro a m p e Y I C F;have G:e=0:=F;subst G;unfold bF at C
   split at C
   ·simp at C
   ·split at C
    ·rename_i h;cases h.1
    ·split at C
     ·exact absurd (Rd.out.inj C).2 (by decide)
     ·split at C
      ·rename_i h3 h4
       injection C with H _
       subst H;exact ⟨by rw [VH];exact h4.2,by show a+1<=65535;omega⟩
      ·cases C
  ·intro a m n Y I C;trivial
 have F:=h.en;have hb:=h.bg;have ae:=h.k0;have ad:=h.bl;unfold ap at F
 rcases Hx (T++dZ) 0 with e|e|e|e|e|e|e|e <;> rw [hb] at e <;> subst e
 ·exact absurd rfl ae
 ·exact row 1 (.inl rfl) F
 ·exact row 3 (.inr rfl) F
 ·exact ac 34 false (.inl rfl) F
 ·exact ac 39 true (.inr rfl) F
 ·have ag:(sg (T++dZ) 0).size=T.size:=by
   have:0+(sg (T++dZ) 0).size=T.size:=Tm Prod.fst F;omega
  obtain ⟨_,S,x3⟩:=jS (T++dZ) 0 (by omega);rw [ag,Td,kZ] at S;rw [<-S] at x3;have h2:=Ni (T++dZ) 0;exact ⟨(rk T x3).2,by omega⟩
 ·have J:run (bF (T++dZ) 0 false) (T++dZ).size 0 0=(T.size,0):=F;obtain ⟨y1,y2,_⟩:=uw _ 0 (SW _) _ J;have Z:=y2 (T.size-1) (SW _) (by omega);rw [Q _ (by omega)] at Z;have aa:=ad rfl;refine ⟨⟨fun e=>?_,Z⟩,by omega⟩;rw [e] at aa;cases aa
 ·exact blk F
theorem Sl (s:ByteArray) (a p:Nat) (F:a<=p) (C:p<=s.size):s=s.extract 0 a++(s.extract a p++s.extract p s.size):=by
 have H:=av s 0 a (by omega);have I:=av s a p C;have J:=av s p s.size (gt _);refine dr _ _ (by rw [aY,aY];omega) (fun i G=>?_);rw [bC,bC]
 split
 ·rw [aI s 0 a i (by omega),Td]
 ·split
  ·rw [aI s a p _ (by omega)];congr 1;omega
  ·rw [aI s p s.size _ (by omega)];congr 1;omega
theorem Ez (s:ByteArray) (a k p:Nat) (ha:a<s.size) (C:ak s a=k) (O:k≠0) (Y:ap s a k=(p,0)):Tx k (s.extract a (if k=7 then aV s p else p)):=by
 obtain ⟨af,hp⟩:=da s a k p ha C O Y;have zA:=av s 0 a (by omega);have zT:=av s a p hp;have Z:=Sl s a p (by omega) hp;obtain ⟨A,hA⟩:∃A,s.extract 0 a=A:=⟨_,rfl⟩;obtain ⟨T,hT⟩:∃T,s.extract a p=T:=⟨_,rfl⟩;obtain ⟨R,hR⟩:∃R,s.extract p s.size=R:=⟨_,rfl⟩;rw [hA,hT,hR] at Z;rw [hA] at zA;rw [hT] at zT
 have H:ak (T++R) 0=k:=by
  rw [<-qy A (T++R) 0,<-Z,TS,zA,WB];exact C
 have I:ap (T++R) 0 k=(T.size,0):=by
  have:=qo A (T++R) 0 k (by rw [aY];omega);rw [<-Z,TS,zA,WB,Y] at this;have h1:p=a+(ap (T++R) 0 k).1:=Tm Prod.fst this;have h2:0=(ap (T++R) 0 k).2:=Tm Prod.snd this;exact VU (by show _=T.size;omega) h2.symm
 have G:0<T.size:=by omega
 by_cases Q:k=7
 ·rw [IO Q];subst Q;have hr:run (bF s a false) s.size a 0=(p,0):=Y;obtain ⟨y1,y2,y3⟩:=uw s a (by omega) p hr
  have F:ay s a=47/\a+1<s.size/\ay s (a+1)=47:=by
   unfold ak at C
   split at C
   ·exact absurd C (by decide)
   ·split at C
    ·exact absurd C (by decide)
    ·split at C
     ·exact absurd C (by decide)
     ·split at C
      ·exact absurd C (by decide)
      ·split at C
       ·assumption
       ·split at C
        ·exact absurd C (by decide)
        ·split at C
         ·exact absurd C (by decide)
         ·exact absurd C (by decide)
  have ac:a+1<p:=by
   apply TF;intro hn
   have e:p=a+1:=by omega
   rcases y3 with h|h
   ·omega
   ·rw [e] at h;omega
  have ad:=gU s (a+1) (by rw [F.2.2];rfl) p ac;have ae:=dG s p;obtain ⟨q,hq⟩:∃q,aV s p=q:=⟨_,rfl⟩;rw [hq] at ad ae ⊢;have zU:=av s a q (by omega);obtain ⟨U,hU⟩:∃U,s.extract a q=U:=⟨_,rfl⟩;have M:∀i,i<U.size->ay U i=ay s (a+i):=fun i hi=>by rw [<-hU,aI s a q i (by rw [hU] at zU;omega)]
  rw [hU] at zU ⊢;have zL:(U++dZ).size=U.size+1:=by rw [aY,SI]
  have S:∀i,i<U.size->ay (U++dZ) i=ay U i:=fun i hi=>cA U dZ i hi
  have J:∀d b m,U.size-b<=d->b<=U.size->run (bF (U++dZ) 0 false) (U++dZ).size b m=(U.size,0):=by
   intro d
   induction d with
   |zero=>
    intro b m hd aa;obtain rfl:b=U.size:=by omega
    refine cB (by omega) ?_;unfold bF;rw [Eq (by omega),IO ⟨rfl,by rw [bC,Eq (by omega),VB];rfl⟩]
   |succ d ih=>
    intro b m hd aa
    by_cases ab:b=U.size
    ·subst ab;refine cB (by omega) ?_;unfold bF;rw [Eq (by omega),IO ⟨rfl,by rw [bC,Eq (by omega),VB];rfl⟩]
    ·have hg:bF (U++dZ) 0 false b m=.on 1:=by
      unfold bF;rw [Eq (by omega),Eq (by rw [S b (by omega),M b (by omega)];exact fun h=>y2 (a+b) (by omega) (by omega) h.2),Eq (by omega),Eq (by simp)]
     rw [fK (dm _ _ _) (by omega) hg];exact ih (b+1) (m+1) (by omega) (by omega)
  refine ⟨by omega,by decide,?_,J _ 0 0 (gt _) (SW _),fun _=>?_⟩
  ·have b0:ay (U++dZ) 0=47:=by rw [S 0 (by omega),M 0 (by omega)];exact F.1
   have b1:ay (U++dZ) (0+1)=47:=by rw [S 1 (by omega),M 1 (by omega)];exact F.2.2
   obtain ⟨c1,c2,c3⟩:=bp (U++dZ) 0 (by omega);unfold ak;rw [Eq (by rw [c2,b0,show fL (47:Nat)=false by decide,Uz];decide),b0,Eq (by decide),Eq (by decide),Eq (by decide),IO ⟨rfl,by omega,b1⟩]
  ·rw [M _ (by omega),show a+(U.size-1)=q-1 by omega]
   have:∀p,0<aV s p->cq (ay s (aV s p-1))=false:=by
    intro p
    induction p with
    |zero=>intro h;exact absurd (show 0<0 from h) (by decide)
    |succ p ih=>
     unfold aV
     split
     ·exact ih
     ·rename_i h;intro _;simpa using h
   rw [<-hq];exact this p (by omega)
 ·rw [Eq Q,hT];exact ⟨G,O,qx T R dZ k G H O I (Gt k T),qm T R dZ k G H O I (Gt k T),fun h=>absurd h Q⟩
def xL (k:Nat) (T:ByteArray):Nat:=if k=1/\ky T=true then 2 else k
theorem qb (s:ByteArray):∀(d a f:Nat),s.size-a<=d->(ep s a f).2.1=0->(∀t∈(ep s a f).1,∃k,Tx k (s.extract t.a t.e)/\t.k=xL k (s.extract t.a t.e))/\(∀t,(ep s a f).1[0]?=some t->f<=t.f)/\∀(i:Nat) t u,(ep s a f).1[i]?=some t->(ep s a f).1[i+1]?=some u->t.k=7->1<=u.f
 |d,a,f,hd,h0=>by
  by_cases ha:s.size<=a
  ·rw [dq s a f ha];exact ⟨fun t ht=>by simp at ht,fun t ht=>by simp at ht,fun i t u ht=>by simp at ht⟩
  ·rw [bP s a f (by omega)] at h0 ⊢;cases d with
   |zero=>omega
   |succ d=>
   split at h0
   ·rename_i O
    rw [IO O];obtain ⟨U,x2,Y⟩:=qb s d (a+1) (f+1) (by omega) h0;exact ⟨U,fun t ht=>by have:=x2 t ht;omega,Y⟩
   ·rename_i O
    rw [Eq O]
    split at h0
    ·rename_i Q
     rw [IO Q];exact qb s d (a+1) f (by omega) h0
    ·rename_i Q
     rw [Eq Q]
     split at h0
     ·exact absurd (show (100:Nat)=0 from h0) (by decide)
     ·rename_i S
      rw [Eq S]
      split at h0
      ·rename_i M;exact absurd h0 M
      ·rename_i M
       rw [Eq M];have G:ap s a (ak s a)=((ap s a (ak s a)).1,0):=VU rfl (by simpa using M);obtain ⟨Z,hp⟩:=da s a _ _ (by omega) rfl S G;have J:=Ez s a _ _ (by omega) rfl S G;obtain ⟨p,hpp⟩:∃p,(ap s a (ak s a)).1=p:=⟨_,rfl⟩;rw [hpp] at G Z hp J h0 ⊢;obtain ⟨U,x2,Y⟩:=qb s d p 0 (by omega) h0
       have I:(bS s (ak s a) a p f).k=xL (ak s a) (s.extract a (if ak s a=7 then aV s p else p)):=by
        show (if ak s a=1/\ky (s.extract a p)=true then 2 else ak s a)=_
        unfold xL
        by_cases e7:ak s a=7
        ·rw [e7];rfl
        ·rw [Eq e7]
       refine ⟨?_,fun t ht=>?_,?_⟩
       ·intro t ht
        rcases Tt.1 ht with rfl|ht
        ·exact ⟨ak s a,J,I⟩
        ·exact U t ht
       ·simp at ht;subst ht;exact gt _
       ·intro i t u ht hu F;cases i with
        |succ i=>exact Y i t u ht hu F
        |zero=>
         simp at ht;subst ht
         have h7:ak s a=7:=by
          rw [I] at F
          generalize s.extract a (if ak s a=7 then aV s p else p)=X at F
          unfold xL at F
          split at F
          ·exact absurd F (by decide)
          ·exact F
         have hr:run (bF s a false) s.size a 0=(p,0):=by rw [h7] at G;exact G
         obtain ⟨_,_,H⟩:=uw s a (by omega) p hr;have C:(ep s p 0).1[0]?=some u:=hu
         rcases H with H|H
         ·rw [dq s p 0 H] at C;simp at C
         ·by_cases aa:s.size<=p
          ·rw [dq s p 0 aa] at C;simp at C
          ·rw [bP s p 0 (by omega),IO H] at C h0;have:=(qb s d (p+1) 1 (by omega) h0).2.1 u C;omega
termination_by d=>d
def nL (c:UInt8) (n:Nat):ByteArray:=⟨(List.replicate n c).toArray⟩
theorem dA (c:UInt8) (n:Nat):(nL c n).size=n:=by show (List.replicate n c).toArray.size=n;simp
theorem kL (c:UInt8) (n i:Nat) (h:i<n):ay (nL c n) i=c.toNat:=by
 have C:i<(List.replicate n c).toArray.size:=by simpa using h
 unfold ay;show ((List.replicate n c).toArray[i]!).toNat=_;rw [VZ _ i C];simp
theorem qc (s:ByteArray):∀(n i f:Nat),i+n<=s.size->(∀j,i<=j->j<i+n->ay s j=10)->ep s i f=ep s (i+n) (f+n)
 |0,i,f,_,_=>rfl
 |n+1,i,f,h,hb=>by
  rw [bP s i f (by omega),IO (hb i (gt _) (by omega)),qc s n (i+1) (f+1) (by omega) (fun j C F=>hb j (by omega) (by omega)),show i+1+n=i+(n+1) by omega,show f+1+n=f+(n+1) by omega]
theorem qd (s:ByteArray):∀(n i f:Nat),i+n<=s.size->(∀j,i<=j->j<i+n->ay s j=32)->ep s i f=ep s (i+n) f
 |0,i,f,_,_=>rfl
 |n+1,i,f,h,hb=>by
  have C:=hb i (gt _) (by omega);rw [bP s i f (by omega),Eq (by omega),IO (by rw [C];rfl),qd s n (i+1) f (by omega) (fun j C F=>hb j (by omega) (by omega)),show i+1+n=i+(n+1) by omega]
def vw (s:ByteArray) (t:Tk):Nat × ByteArray × Nat:=(t.k,s.extract t.a t.e,t.f)
def DP (s:ByteArray) (f:Nat) (l:List (Nat × ByteArray × Nat)):Prop:=(ep s 0 f).2.1=0/\(ep s 0 f).1.map (vw s)=l
theorem Me (a c:ByteArray) (f:Nat):((ep c 0 f).1.map (Tk.up a.size)).map (vw (a++c))=(ep c 0 f).1.map (vw c):=by
 rw [Xa];refine List.map_congr_left (fun t ht=>?_);have:=gq c _ 0 f (gt _) t ht;show (t.k,(a++c).extract (a.size+t.a) (a.size+t.e),t.f)=_;rw [qj a c t.a t.e this.2.2];rfl
theorem JP {R:ByteArray}{f b:Nat}{l:List (Nat × ByteArray × Nat)}(h:DP R (f+a) l):DP (nL 10 a++(nL 32 b++R)) f l:=by
 have H:=dA 10 a;have J:=dA 32 b;obtain ⟨X,F⟩:∃X,nL 10 a++nL 32 b=X:=⟨_,rfl⟩;have M:X.size=a+b:=by rw [<-F,aY,H,J]
 have e:nL 10 a++(nL 32 b++R)=X++R:=by rw [<-F,Uu]
 have z:(X++R).size=a+b+R.size:=by rw [aY,M]
 have G:∀i,i<a+b->ay (X++R) i=if i<a then 10 else 32:=by
  intro i O;rw [bC,IO (by omega),<-F,bC,H]
  split
  ·rw [kL _ _ _ (by assumption)];rfl
  ·rw [kL _ _ _ (by omega)];rfl
 rw [e];unfold DP;rw [qc (X++R) a 0 f (by omega) (fun j I C=>by rw [G j (by omega),IO (by omega)]),qd (X++R) b (0+a) (f+a) (by omega) (fun j I C=>by rw [G j (by omega),Eq (by omega)])];have C:=fe X R _ 0 (f+a) (gt _);rw [show 0+a+b=X.size+0 by omega,C];exact ⟨h.1,by rw [Me];exact h.2⟩
theorem Ad {k:Nat}{T R:ByteArray}{f:Nat}{l:List (Nat × ByteArray × Nat)}(C:Tx k T) (hF:IF k T R) (h:DP R 0 l):DP (T++R) f ((xL k T,T,f) :: l):=by
 have J:=C.pos;have z:(T++R).size=T.size+R.size:=aY _ _;have F:=qx T dZ R k J C.bg C.k0 C.en hF;have Q:=qm T dZ R k J C.bg C.k0 C.en hF;have G:¬ay (T++R) 0=10:=fun e=>C.k0 (by rw [<-F];exact ki (.inl e))
 have H:¬cq (ay (T++R) 0)=true:=fun e=>C.k0 (by rw [<-F];exact ki (.inr e))
 have I:=fe T R _ 0 0 (gt _);rw [TS] at I
 have hend:(if k=7 then aV (T++R) T.size else T.size)=T.size:=by
  split
  ·rename_i O
   have:=C.bl O;obtain ⟨q,M⟩:∃q,T.size=q+1:=⟨T.size-1,by omega⟩;rw [M];unfold aV;rw [Eq];rw [cA T R q (by omega)];rw [M,VH] at this;rw [this];decide
  ·rfl
 unfold DP;rw [bP (T++R) 0 f (by omega),Eq G,Eq H,Eq (by rw [F];exact C.k0),F,Q,Eq (by simp)];show (ep (T++R) T.size 0).2.1=0/\vw (T++R) (bS (T++R) k 0 T.size f) :: (ep (T++R) T.size 0).1.map (vw (T++R))=_;rw [I];refine ⟨h.1,?_⟩;show _ :: ((ep R 0 0).1.map (Tk.up T.size)).map (vw (T++R))=_;rw [Me,h.2]
 congr 1
 show ((if k=1/\ky ((T++R).extract 0 T.size)=true then 2 else k),(T++R).extract 0 (if k=7 then aV (T++R) T.size else T.size),f)=_
 rw [hend,kZ];rfl
theorem JS (e f:Nat):DP (nL 10 e) f []:=by
 have z:=dA 10 e;unfold DP;rw [qc (nL 10 e) e 0 f (by omega) (fun j _ C=>by rw [kL _ _ _ (by omega)];rfl),dq _ _ _ (by omega)];exact ⟨rfl,rfl⟩
theorem AU {i:Nat}(h:ay s i / 64=2):gd s i=false:=by
 have e:Utf8.decode s i=(65533,1):=by
  rw [cf];unfold D;have C:(ay s i / 32 == 6)=false:=Tq.2 (by omega);have F:(ay s i / 16 == 14)=false:=Tq.2 (by omega);have G:(ay s i / 8 == 30)=false:=Tq.2 (by omega);rw [Eq (by omega),C,F,G];rfl
 unfold gd dp dw;rw [e];rfl
theorem kR:fL (61:Nat)=false/\fL (46:Nat)=false/\fL (47:Nat)=false:=by decide
structure Q8 (k:Nat) (T:ByteArray):Prop where
 nc:¬ay T 0 / 64=2
 f1:k=1->ay T 0≠61/\ay T 0≠46/\ay T 0≠47
 f3:k=3->cK (ay T 0)=true
 f4:k=4->ay T 0=34
 f5:k=5->ay T 0=39
 f6:k=6->T∈aZ
 f7:k=7->ay T 0=47
 f8:k=8->ay T 0=123
 ks:k=1\/k=3\/k=4\/k=5\/k=6\/k=7\/k=8
theorem uW (h:Tx k T):Q8 k T:=by
 have hp:=h.pos;have F:ay (T++dZ) 0=ay T 0:=cA T dZ 0 hp;have G:=h.bg
 have M:k=1\/k=3\/k=4\/k=5\/k=6\/k=7\/k=8:=by
  have:=Hx (T++dZ) 0;rw [G] at this;have:=h.k0;omega
 have O:k=1->(gd (T++dZ) 0 && fL (dp (T++dZ) 0))=true:=by
  intro C;rw [C] at G;unfold ak at G
  split at G
  ·assumption
  ·repeat' (split at G)
   all_goals exact absurd G (by decide)
 have J:k≠1->ay T 0<128:=fun C=>by rw [<-F];exact (ls G h.k0 C).1
 have Y:k=6->T∈aZ:=by
  intro C;have Q:=h.en;rw [C] at Q
  have hz:(sg (T++dZ) 0).size=T.size:=by
   have:0+(sg (T++dZ) 0).size=T.size:=Tm Prod.fst Q;omega
  obtain ⟨_,S,U⟩:=jS (T++dZ) 0 (by omega);rw [hz,Td,kZ] at S;rw [<-S] at U;exact U
 have I:∀j,k=j->j≠1->ak (T++dZ) 0=j/\¬(gd (T++dZ) 0 && fL (dp (T++dZ) 0))=true:=fun j C hj=>⟨by rw [G,C],by rw [(ls G h.k0 (by omega)).2];decide⟩
 refine ⟨?_,?_,?_,?_,?_,Y,?_,?_,M⟩
 ·by_cases C:k=1
  ·intro e;rw [<-F] at e;have:=O C;rw [AU e] at this;cases this
  ·have:=J C;omega
 ·intro C;have:=O C;rw [Tc] at this
  have H:∀c,c<128->fL (c:Nat)=false->ay T 0≠c:=by
   intro c Z hl e;rw [(bp (T++dZ) 0 (by rw [F,e];exact Z)).2.1,F,e,hl] at this;cases this.2
  exact ⟨H 61 (by decide) kR.1,H 46 (by decide) kR.2.1,H 47 (by decide) kR.2.2⟩
 ·intro C;obtain ⟨x,y⟩:=I 3 C (by decide);unfold ak at x;rw [Eq y] at x
  split at x
  ·rename_i hd;rw [<-F];exact hd
  ·repeat' (split at x)
   all_goals exact absurd x (by decide)
 ·intro C;obtain ⟨x,y⟩:=I 4 C (by decide);unfold ak at x;rw [Eq y] at x
  split at x
  ·exact absurd x (by decide)
  ·split at x
   ·rename_i hd;rw [<-F];exact hd
   ·repeat' (split at x)
    all_goals exact absurd x (by decide)
 ·intro C;obtain ⟨x,y⟩:=I 5 C (by decide);unfold ak at x;rw [Eq y] at x
  split at x
  ·exact absurd x (by decide)
  ·split at x
   ·exact absurd x (by decide)
   ·split at x
    ·rename_i hd;rw [<-F];exact hd
    ·repeat' (split at x)
     all_goals exact absurd x (by decide)
 ·intro C;obtain ⟨x,y⟩:=I 7 C (by decide);unfold ak at x;rw [Eq y] at x
  split at x
  ·exact absurd x (by decide)
  ·split at x
   ·exact absurd x (by decide)
   ·split at x
    ·exact absurd x (by decide)
    ·split at x
     ·rename_i hd;rw [<-F];exact hd.1
     ·repeat' (split at x)
      all_goals exact absurd x (by decide)
 ·intro C;obtain ⟨x,y⟩:=I 8 C (by decide);unfold ak at x;rw [Eq y] at x
  split at x
  ·exact absurd x (by decide)
  ·split at x
   ·exact absurd x (by decide)
   ·split at x
    ·exact absurd x (by decide)
    ·split at x
     ·exact absurd x (by decide)
     ·split at x
      ·rename_i hd;rw [<-F];exact hd
      ·repeat' (split at x)
       all_goals exact absurd x (by decide)
structure zw (k:Nat) (T:ByteArray) (c:Nat):Prop where
 nc:¬c / 64=2
 f1:k=1->c<128/\iq (c:Nat)=false
 f3:k=3->cK c=false
 f6:k=6->T.size=1->(∀x∈aZ,x.size=2->ay x 0=ay T 0->ay x 1≠c)/\¬(ay T 0=47/\c=47)
 f7:k=7->c=10
theorem gn {k:Nat}{T R:ByteArray}{c:Nat}(h:zw k T c) (F:0<R.size) (hc:ay R 0=c):IF k T R:=by
 refine ⟨?_,fun C _=>by rw [hc];exact h.f1 C,fun C _=>by rw [hc];exact h.f3 C,fun C G _=>by rw [hc];exact h.f6 C G,fun C _=>by rw [hc];exact h.f7 C⟩;unfold ob;rw [IO F,hc];show (c / 64 == 2)=false;exact Tq.2 h.nc
theorem gC:∀x∈aZ,x.size=2->(ay x 1=61\/ay x 1=46)/\(ay x 0=58\/ay x 0=46\/ay x 0=60\/ay x 0=62):=by decide
theorem pZ (k:Nat) (T:ByteArray):zw k T 10:=
 ⟨by decide,fun _=>⟨by decide,gP.1⟩,fun _=>rfl,fun _ _=>⟨fun x F C _ G=>by have:=(gC x F C).1;omega,fun h=>absurd h.2 (by decide)⟩,fun _=>rfl⟩
theorem yT (T:ByteArray) (h:k≠7):zw k T 32:=
 ⟨by decide,fun _=>⟨by decide,gP.2.1⟩,fun _=>rfl,fun _ _=>⟨fun x G C _ H=>by have:=(gC x G C).1;omega,fun h=>absurd h.2 (by decide)⟩,fun F=>absurd F h⟩
theorem B4:∀x∈aZ,ay x 0<128/\iq (ay x 0:Nat)=false/\cK (ay x 0)=false:=by decide
theorem Fo:iq (34:Nat)=false/\iq (39:Nat)=false:=by decide
theorem Gs {F:Nat}{C:ByteArray}(U:k≠7) (hF:Q8 F C) (I:F≠7/\F≠8) (O:¬((k=1\/k=3)/\(F=1\/F=3)))
  (hd:k=6->T.size=1->(ay T 0=60\/ay T 0=62\/ay T 0=58\/ay T 0=47\/ay T 0=46)->F=6->ay C 0≠61/\ay C 0≠46/\ay C 0≠47):zw k T (ay C 0):=by
 have G:¬(F=1\/F=3)->ay C 0<128/\iq (ay C 0:Nat)=false/\cK (ay C 0)=false:=by
  intro h
  rcases hF.ks with e|e|e|e|e|e|e
  ·exact absurd (.inl e) h
  ·exact absurd (.inr e) h
  ·rw [hF.f4 e];exact ⟨by decide,Fo.1,rfl⟩
  ·rw [hF.f5 e];exact ⟨by decide,Fo.2,rfl⟩
  ·exact B4 C (hF.f6 e)
  ·exact absurd e I.1
  ·exact absurd e I.2
 refine ⟨hF.nc,fun e=>?_,fun e=>?_,fun e Y=>?_,fun e=>absurd e U⟩
 ·obtain ⟨a,b,_⟩:=G (fun h=>O ⟨.inl e,h⟩);exact ⟨a,b⟩
 ·exact (G (fun h=>O ⟨.inr e,h⟩)).2.2
 ·have H:(ay T 0=60\/ay T 0=62\/ay T 0=58\/ay T 0=47\/ay T 0=46)->ay C 0≠61/\ay C 0≠46/\ay C 0≠47:=by
   intro J
   rcases hF.ks with x|x|x|x|x|x|x
   ·exact hF.f1 x
   ·have:=hF.f3 x;unfold cK at this;simp only [Tc,Tz] at this;omega
   ·rw [hF.f4 x];decide
   ·rw [hF.f5 x];decide
   ·exact hd e Y J x
   ·exact absurd x I.1
   ·exact absurd x I.2
  refine ⟨fun x Z S Q M=>?_,fun ⟨Q,M⟩=>?_⟩
  ·obtain ⟨a,b⟩:=gC x Z S;obtain ⟨c1,c2,_⟩:=H (by omega);omega
  ·exact (H (by omega)).2.2 M
end Go.Proofs.YtcjiapphbpiffaaGreatDoor.Lx
