import Derived.Test.YtjiepkenkcgkhaaGreatDoorM08
set_option linter.unusedVariables false
set_option linter.unusedSimpArgs false
namespace Go.Proofs.YtjiepkenkcgkhaaGreatDoor.Lx
open Go.RowKit
variable {k a z P:Nat}{s T:ByteArray}
theorem BT (T:ByteArray):T.extract 0 T.size=T:=by
 have z:=az T 0 T.size (gt _);exact eX _ _ (by rw [z];omega) (fun i hi=>by rw [aR T 0 T.size i (by omega),QU])
theorem kK (T R:ByteArray):(T++R).extract 0 T.size=T:=by rw [rc T R 0 T.size (gt _),BT]
theorem MY (T R:ByteArray) (i:Nat) (hi:i<T.size) (hd:i+dw (T++R) i<=T.size):Utf8.decode T i=Utf8.decode (T++R) i:=by
 have h:=JU (T++R) 0 T.size i (QK _) (by rw [br];omega) (by omega) (by rw [QU];exact hd);rw [kK,QU] at h;exact h
theorem pT (T R0 R1:ByteArray) (h:ct (ob R1 0)=false) (i:Nat) (hi:i<T.size) (hd:i+dw (T++R0) i<=T.size):gd (T++R1) i=gd (T++R0) i/\dp (T++R1) i=dp (T++R0) i/\dw (T++R1) i=dw (T++R0) i:=by
 have e:Utf8.decode (T++R1) i=Utf8.decode (T++R0) i:=(B9 T R1 h i hi).trans (MY T R0 i hi hd);unfold gd dp dw;rw [e];exact ⟨rfl,rfl,rfl⟩
theorem fk (T R0 R1:ByteArray) (i:Nat) (hi:i<T.size):ay (T++R1) i=ay (T++R0) i:=by rw [eh T R1 i hi,eh T R0 i hi]
theorem iw {g g':Nat->Nat->Rd}{z':Nat}(hg:fY g z) (hg':fY g' z') (hP:P<=z') (hge:∀b m p,g b m=.out p 0->b<=p)
  (h1:∀b m,b<=P->g b m=.out P 0->g' b m=.out P 0) (h2:∀b m n,g b m=.on n->b+n<=P->g' b m=.on n) :
  ∀(d a m:Nat),z-a<=d->a<=z->run g z a m=(P,0)->a<=P/\run g' z' a m=(P,0)
 |d,a,m,hd,ha,h=>by
  cases e:g a m with
  |out p q=>
   rw [cj ha e] at h;injection h with hp hq
   subst hp hq;have hap:=hge a m p e;exact ⟨hap,cj (by omega) (h1 a m hap e)⟩
  |on n=>
   obtain ⟨h3,h4⟩:=hg a m n e;rw [fy hg ha e] at h;cases d with
   |zero=>omega
   |succ d=>
    obtain ⟨h5,h6⟩:=iw hg hg' hP hge h1 h2 d (a+n) (m+1) (by omega) h4 h;have e':=h2 a m n e h5;exact ⟨by omega,by rw [fy hg' (by omega) e'];exact h6⟩
structure Kn (k:Nat) (T R:ByteArray):Prop where
 nc:ct (ob R 0)=false
 f1:k=1->0<R.size->ay R 0<128/\jC (ay R 0:Nat)=false
 f3:k=3->0<R.size->cJ (ay R 0)=false
 f6:k=6->T.size=1->0<R.size->(∀x∈bh,x.size=2->ay x 0=ay T 0->ay x 1≠ay R 0)/\¬(ay T 0=47/\ay R 0=47)
 f7:k=7->0<R.size->ay R 0=10
theorem F8 (s:ByteArray) (a:Nat):ak s a=0\/ak s a=1\/ak s a=3\/ak s a=4\/ak s a=5\/ak s a=6\/ak s a=7\/ak s a=8:=by
 unfold ak
 repeat' split
 all_goals simp
theorem AM:∀x∈bh.drop 4,x.size=1:=by decide
theorem Do (x:ByteArray) (hx:x∈bh) (h:x.size=2):x∈bh.take 4:=by
 rw [<-RJ 4 bh] at hx
 rcases Q6.1 hx with h1|h1
 ·exact h1
 ·have:=AM x h1;omega
theorem AQ:∀x∈bh.take 4,x.size=2:=by decide
theorem xc:∀x∈bh,x.size=1\/x.size=2:=by decide
theorem E7 {f:ByteArray->Bool}{y:ByteArray}(h:bh.find? f=some y) (hy:y.size=1):∀x∈bh,x.size=2->f x=false:=by
 intro x hx h2;rw [<-RJ 4 bh,UX] at h;cases hc:(bh.take 4).find? f with
 |none=>
  have:=List.find?_eq_none.1 hc x (Do x hx h2)
  simpa using this
 |some z=>
  rw [hc] at h;cases h;have:=AQ y (TD hc);omega
theorem yU (T R:ByteArray) (x:ByteArray) (h:x.size<=T.size):pre (T++R) 0 x=pre T 0 x:=by
 unfold pre;rw [QU,rc T R 0 x.size h]
 apply Sz.2
 rw [br];constructor
 ·exact fun h'=>⟨h,h'.2⟩
 ·exact fun h'=>⟨by omega,h'.2⟩
theorem yH (T R0 R1:ByteArray) (hT:0<T.size) (h:(sg (T++R0) 0).size=T.size) (hF:Kn 6 T R1):sg (T++R1) 0=sg (T++R0) 0:=by
 unfold sg
 have hs:sg (T++R0) 0=T:=by
  obtain ⟨h1,h2,_⟩:=jJ (T++R0) 0 (by omega);rw [h,QU,kK] at h2;exact h2.symm
 have hTs:T∈bh:=by rw [<-hs];exact (jJ (T++R0) 0 (by omega)).2.2
 have hf:bh.find? (pre (T++R0) 0)=some T:=by
  unfold sg at hs;cases hc:bh.find? (pre (T++R0) 0) with
  |none=>rw [hc] at hs;exfalso;rw [<-hs] at hT;exact absurd hT (by decide)
  |some y=>rw [hc] at hs;exact Q0 some hs
 rw [pH (g:=pre (T++R0) 0)];intro x hx
 rcases Uf T.size x.size with hlt|hge
 ·have h2:x.size=2:=by rcases xc x hx with e|e <;> omega
  have h1:T.size=1:=by omega
  rw [E7 hf h1 x hx h2];unfold pre
  apply QX
  rintro ⟨a1,a2⟩;rw [br] at a1
  have b0:ay x 0=ay T 0:=by
   rw [<-a2,aR _ 0 _ 0 (by omega),QU,eh T R1 0 (by omega)]
  have b1:ay x 1=ay R1 0:=by
   rw [<-a2,aR _ 0 _ 1 (by omega),bN,Eq (by omega),h1]
  exact (hF.f6 rfl h1 (by omega)).1 x hx h2 b0 b1
 ·rw [yU T R1 x hge,yU T R0 x hge]
theorem vM (T R0 R1:ByteArray) (k:Nat) (hT:0<T.size) (hb:ak (T++R0) 0=k) (h0:k≠0) (he:ap (T++R0) 0 k=(T.size,0)) (hF:Kn k T R1):ap (T++R1) 0 k=(T.size,0):=by
 have z0:(T++R0).size=T.size+R0.size:=br _ _;have z1:(T++R1).size=T.size+R1.size:=br _ _
 have quo:∀q o,q<128->run (cq (T++R0) 0 q o) (T++R0).size (0+1) 0=(T.size,0)->run (cq (T++R1) 0 q o) (T++R1).size (0+1) 0=(T.size,0):=by
  intro q o hq h;refine (iw (eS _ _ _ _) (eS _ _ _ _) (by omega) (fun b m p=>Io _ _ _ _ b m p) ?_ ?_ _ 1 0 (gt _) (by omega) h).2
  ·intro b m hbP hg;unfold cq at hg ⊢
   split at hg
   ·first|exact absurd (Rd.out.inj hg).2 (by decide)|cases hg
   ·rename_i h1
    split at hg
    ·first|exact absurd (Rd.out.inj hg).2 (by decide)|cases hg
    ·rename_i h2
     split at hg
     ·rename_i h3
      injection hg with hp _
      have hbT:b<T.size:=by omega
      have c0:=bq (T++R0) b (by rw [h3.1];exact hq);have e8:=fk T R0 R1 b hbT;have c1:=bq (T++R1) b (by rw [e8,h3.1];exact hq);rw [c0.1] at h2;rw [Eq (by rw [e8];omega),c1.1,Eq h2,e8,IO h3,hp]
     ·split at hg
      ·first|exact absurd (Rd.out.inj hg).2 (by decide)|cases hg
      ·first|exact absurd (Rd.out.inj hg).2 (by decide)|cases hg
  ·intro b m n hg hbn;unfold cq at hg ⊢
   split at hg
   ·cases hg
   ·rename_i h1
    split at hg
    ·cases hg
    ·rename_i h2
     split at hg
     ·cases hg
     ·rename_i h3
      split at hg
      ·cases hg
      ·rename_i h4
       injection hg with hn
       have hn1:1<=n:=by
        have:=eS (T++R0) 0 q o b m n (by unfold cq;rw [Eq h1,Eq h2,Eq h3,Eq h4,hn]);exact this.1
       have hbT:b<T.size:=by omega
       have e8:=fk T R0 R1 b hbT;obtain ⟨d1,d2,d3⟩:=pT T R0 R1 hF.nc b hbT (by rw [hn];exact hbn);have ec:gi (T++R1) b=gi (T++R0) b:=by unfold gi;rw [d1,d2]
       rw [Eq (by rw [e8];omega),d3,Eq h2,e8,Eq h3,ec,Eq h4,hn]
 have com:∀o,(o=false->0<R1.size->ay R1 0=10)->run (bF (T++R0) 0 o) (T++R0).size 0 0=(T.size,0)->run (bF (T++R1) 0 o) (T++R1).size 0 0=(T.size,0):=by
  intro o ho h;refine (iw (cY _ _ _) (cY _ _ _) (by omega) (fun b m p=>zY _ _ _ b m p) ?_ ?_ _ 0 0 (gt _) (by omega) h).2
  ·intro b m hbP hg;unfold bF at hg ⊢
   by_cases hbT:b=T.size
   ·have ho2:o=false:=by
     cases o with
     |false=>rfl
     |true=>
      exfalso
      split at hg
      ·simp at hg
      ·simp at hg
       split at hg
       ·exact absurd (Rd.out.inj hg).2 (by decide)
       ·split at hg
        ·have:=(Rd.out.inj hg).1;omega
        ·cases hg
    subst ho2;rw [hbT]
    by_cases hR:R1.size=0
    ·rw [IO (by omega)];rfl
    ·have e8:ay (T++R1) T.size=10:=by rw [bN,Eq (Nat.lt_irrefl _),TS];exact ho rfl (by omega)
     rw [Eq (by omega),IO ⟨rfl,e8⟩]
   ·have hbl:b<T.size:=by omega
    have e8:=fk T R0 R1 b hbl;rw [Eq (by omega)] at hg ⊢;rw [e8];exact hg
  ·intro b m n hg hbn;unfold bF at hg ⊢
   split at hg
   ·split at hg <;> cases hg
   ·split at hg
    ·cases hg
    ·split at hg
     ·cases hg
     ·split at hg
      ·cases hg
      ·rename_i h1 h2 h3 h4
       injection hg with hn
       have e8:=fk T R0 R1 b (by omega);rw [Eq (by omega),e8,Eq h2,Eq h3,Eq h4,hn]
 have row:(k=1\/k=3)->run (cf (T++R0) 0 k) (T++R0).size 0 0=(T.size,0)->run (cf (T++R1) 0 k) (T++R1).size 0 0=(T.size,0):=by
  intro hk h;refine (iw (cX _ _ _) (cX _ _ _) (by omega) (fun b m p=>yK _ _ _ b m p) ?_ ?_ _ 0 0 (gt _) (by omega) h).2
  ·intro b m hbP hg
   have hbT:b=T.size:=by
    unfold cf at hg
    split at hg
    ·injection hg
    ·split at hg
     ·injection hg
     ·split at hg
      ·first|exact absurd (Rd.out.inj hg).2 (by decide)|cases hg
      ·first|exact absurd (Rd.out.inj hg).2 (by decide)|cases hg
   rw [hbT];unfold cf
   by_cases hR:R1.size=0
   ·rw [IO (by omega)]
   ·have e8:ay (T++R1) T.size=ay R1 0:=by rw [bN,Eq (by omega),TS]
    rw [Eq (by omega),IO ?_]
    rcases hk with rfl|rfl
    ·obtain ⟨f1,f2⟩:=hF.f1 rfl (by omega);obtain ⟨c1,c2,c3⟩:=bq (T++R1) T.size (by rw [e8];exact f1);refine .inl ⟨rfl,?_⟩;rw [c3,c2,e8,f2];rfl
    ·exact .inr ⟨rfl,by rw [e8];exact hF.f3 rfl (by omega)⟩
  ·intro b m n hg hbn;unfold cf at hg ⊢
   split at hg
   ·cases hg
   ·rename_i h1
    split at hg
    ·cases hg
    ·rename_i h2
     split at hg
     ·cases hg
     ·rename_i h3
      injection hg with hn
      have hn1:=(cX (T++R0) 0 k b m n (by unfold cf;rw [Eq h1,Eq h2,Eq h3,hn])).1;have hbT:b<T.size:=by omega
      have e8:=fk T R0 R1 b hbT;obtain ⟨d1,d2,d3⟩:=pT T R0 R1 hF.nc b hbT (by rw [hn];exact hbn);rw [Eq (by omega),d1,d2,e8,Eq h2,d3,Eq h3,hn]
 unfold ap at he ⊢
 rcases F8 (T++R0) 0 with e|e|e|e|e|e|e|e <;> rw [hb] at e <;> subst e
 ·exact absurd rfl h0
 ·exact row (.inl rfl) he
 ·exact row (.inr rfl) he
 ·exact quo 34 false (by decide) he
 ·exact quo 39 true (by decide) he
 ·have hz:(sg (T++R0) 0).size=T.size:=by
   have:0+(sg (T++R0) 0).size=T.size:=Q0 Prod.fst he;omega
  show (0+(sg (T++R1) 0).size,0)=_
  rw [yH T R0 R1 hT hz hF,hz,QU]
 ·exact com false (fun _ h=>hF.f7 rfl h) he
 ·exact com true (fun e=>by cases e) he
theorem AP:∀x∈bh,ay x 0<128:=by decide
theorem Dt {g:Nat->Nat->Rd}{m:Nat}(hg:fY g z) (hge:∀b m p,g b m=.out p 0->b<=p) (ha:a<=z) (hP:P<=z) (h:run g z a m=(P,0)):a<=P:=
 (iw hg hg hP hge (fun _ _ _ h=>h) (fun _ _ _ h _=>h) _ a m (gt _) ha h).1
theorem tH (hb:ak s a=k) (h0:k≠0) (h1:k≠1):ay s a<128/\(gd s a && fC (dp s a))=false:=by
 unfold ak at hb
 split at hb
 ·exact absurd hb.symm h1
 ·rename_i hl
  refine ⟨?_,by simpa using hl⟩
  split at hb
  ·rename_i h;simp only [cJ,QR,Rj] at h;omega
  ·split at hb
   ·omega
   ·split at hb
    ·omega
    ·split at hb
     ·omega
     ·split at hb
      ·omega
      ·split at hb
       ·rename_i h
        obtain ⟨e1,e2,e3⟩:=jJ s a h;have h8:=AP _ e3;rw [<-e2,aR s a _ 0 (by omega),R7] at h8;exact h8
       ·exact absurd hb.symm h0
theorem wv (T R0 R1:ByteArray) (k:Nat) (hT:0<T.size) (hb:ak (T++R0) 0=k) (h0:k≠0) (he:ap (T++R0) 0 k=(T.size,0)) (hF:Kn k T R1):ak (T++R1) 0=k:=by
 have z0:(T++R0).size=T.size+R0.size:=br _ _;have z1:(T++R1).size=T.size+R1.size:=br _ _;have e8:=fk T R0 R1 0 hT
 by_cases hk1:k=1
 ·subst hk1
  have hl:(gd (T++R0) 0 && fC (dp (T++R0) 0))=true:=by
   unfold ak at hb
   split at hb
   ·assumption
   ·repeat' (split at hb)
    all_goals exact absurd hb (by decide)
  have hr:run (cf (T++R0) 0 1) (T++R0).size 0 0=(T.size,0):=he
  have hd:0+dw (T++R0) 0<=T.size:=by
   cases hg:cf (T++R0) 0 1 0 0 with
   |out p e=>
    rw [cj (QK _) hg] at hr;unfold cf at hg;rw [Eq (by omega)] at hg;rw [QR] at hl;have hp:(gd (T++R0) 0 && jC (dp (T++R0) 0))=true:=by rw [hl.1];unfold jC;rw [hl.2];rfl
    rw [Eq (by rintro (⟨_,h⟩|⟨h,_⟩);rw [hp] at h;cases h;cases h)] at hg
    split at hg
    ·have h1:=(Rd.out.inj hg).2;have h2:e=0:=Q0 Prod.snd hr;omega
    ·cases hg
   |on n=>
    have hn:n=dw (T++R0) 0:=by
     unfold cf at hg
     repeat' (split at hg)
     all_goals first|(cases hg;done)|(injection hg with hg;exact hg.symm)
    rw [fy (cX _ _ _) (QK _) hg,hn] at hr;have hz:=(cX (T++R0) 0 1 0 0 n hg).2;exact Dt (cX _ _ _) (fun b m p=>yK _ _ _ b m p) (by omega) (by omega) hr
  obtain ⟨d1,d2,_⟩:=pT T R0 R1 hF.nc 0 hT hd;unfold ak;rw [IO (by rw [d1,d2];exact hl)]
 ·obtain ⟨ha,hnl⟩:=tH hb h0 hk1;obtain ⟨c1,c2,c3⟩:=bq (T++R0) 0 ha;obtain ⟨d1,d2,d3⟩:=bq (T++R1) 0 (by rw [e8];exact ha)
  have hnl1:¬(gd (T++R1) 0 && fC (dp (T++R1) 0))=true:=by
   have e:(gd (T++R1) 0 && fC (dp (T++R1) 0))=(gd (T++R0) 0 && fC (dp (T++R0) 0)):=by rw [d3,d2,c3,c2,e8]
   rw [e,hnl];decide
  have hnl0:¬(gd (T++R0) 0 && fC (dp (T++R0) 0))=true:=by rw [hnl];decide
  unfold ak at hb ⊢;rw [Eq hnl0] at hb;rw [Eq hnl1,e8]
  split at hb
  ·rename_i h;rw [IO h];exact hb
  ·rename_i h3
   rw [Eq h3]
   split at hb
   ·rename_i h;rw [IO h];exact hb
   ·rename_i h4
    rw [Eq h4]
    split at hb
    ·rename_i h;rw [IO h];exact hb
    ·rename_i h5
     rw [Eq h5]
     split at hb
     ·rename_i h7
      subst hb;have hr:run (bF (T++R0) 0 false) (T++R0).size 0 0=(T.size,0):=he
      have g0:bF (T++R0) 0 false 0 0=.on 1:=by
       unfold bF;rw [Eq (by omega),Eq (by omega),Eq (by omega),Eq (by simp)]
      have g1:bF (T++R0) 0 false 1 1=.on 1:=by
       unfold bF;rw [Eq (by omega),Eq (by rw [show (0:Nat)+1=1 from rfl] at h7;omega),Eq (by omega),Eq (by simp)]
      rw [fy (cY _ _ _) (QK _) g0,fy (cY _ _ _) (by omega) g1] at hr;have hT2:=Dt (cY _ _ _) (fun b m p=>zY _ _ _ b m p) (by omega) (by omega) hr;rw [IO ⟨h7.1,by omega,by rw [fk T R0 R1 (0+1) (by omega)];exact h7.2.2⟩]
     ·rename_i h7
      have h7':¬(ay (T++R0) 0=47/\0+1<(T++R1).size/\ay (T++R1) (0+1)=47)\/k≠6:=by
       by_cases hk6:k=6
       ·refine .inl (fun ⟨x1,x2,x3⟩=>?_)
        by_cases hT2:1<T.size
        ·rw [fk T R0 R1 (0+1) (by omega)] at x3;exact h7 ⟨x1,by omega,x3⟩
        ·have hT1:T.size=1:=by omega
         rw [bN,Eq (by omega),hT1] at x3;rw [eh T R0 0 hT] at x1;exact (hF.f6 hk6 hT1 (by omega)).2 ⟨x1,x3⟩
       ·exact .inr hk6
      split at hb
      ·rename_i h;rw [Eq (by omega),IO h];exact hb
      ·rename_i h123
       split at hb
       ·rename_i hs
        subst hb
        have hz:(sg (T++R0) 0).size=T.size:=by
         have:0+(sg (T++R0) 0).size=T.size:=Q0 Prod.fst he;omega
        rw [Eq (h7'.resolve_right (fun h=>h rfl)),Eq h123,yH T R0 R1 hT hz hF,IO hs]
       ·exact absurd hb.symm h0
structure Tx (k:Nat) (T:ByteArray):Prop where
 pos:0<T.size
 k0:k≠0
 bg:ak (T++dO) 0=k
 en:ap (T++dO) 0 k=(T.size,0)
 bl:k=7->cQ (ay T (T.size-1))=false
theorem QA:dO.size=1:=rfl
theorem gY:jC (10:Nat)=false/\jC (32:Nat)=false/\fC (10:Nat)=false/\fC (32:Nat)=false/\fC (9:Nat)=false/\fC (13:Nat)=false:=by decide
theorem E5 (k:Nat) (T:ByteArray):Kn k T dO:=by
 refine ⟨rfl,fun _ _=>⟨by decide,gY.1⟩,fun _ _=>rfl,fun _ h1 _=>⟨fun x hx h2 _ h3=>?_,fun h=>?_⟩,fun _ _=>rfl⟩
 ·rcases Dq x hx with h|h
  ·omega
  ·exact h.2 h3
 ·exact absurd h.2 (by decide)
def IN (c:Nat):Prop:=c≠32/\c≠10
theorem qF:∀x∈bh,(ay x 0≠32/\ay x 0≠10/\ay x 0≠9/\ay x 0≠13)/\ay x (x.size-1)≠32/\ay x (x.size-1)≠10:=by decide
theorem tG (h:ay s a=10\/cQ (ay s a)=true):ak s a=0:=by
 have hc:ay s a=10\/ay s a=32\/ay s a=9\/ay s a=13:=by
  rcases h with h|h
  ·exact .inl h
  ·unfold cQ at h;simp only [QY,RM] at h;omega
 obtain ⟨c1,c2,c3⟩:=bq s a (by omega)
 have hl:fC (dp s a:Nat)=false:=by
  rw [c2]
  rcases hc with e|e|e|e <;> rw [e]
  ·exact gY.2.2.1
  ·exact gY.2.2.2.1
  ·exact gY.2.2.2.2.1
  ·exact gY.2.2.2.2.2
 unfold ak;rw [Eq (by rw [hl,SX];decide),Eq (by unfold cJ;rcases hc with e|e|e|e <;> rw [e] <;> decide),Eq (by omega),Eq (by omega),Eq (by omega),Eq (by omega),Eq ?_];intro hz;obtain ⟨e1,e2,e3⟩:=jJ s a hz;have h8:=(qF _ e3).1;rw [<-e2,aR s a _ 0 (by omega),R7] at h8;omega
theorem F0 (s:ByteArray) (b:Nat) (h1:1<=dw s b) (hb:b<s.size) (h:ay s (b+dw s b-1)<128):dw s b=1:=by
 apply Rv;intro hne
 have:=(jv s b (dw s b-1) (by omega) (by omega)).2;rw [show b+(dw s b-1)=b+dw s b-1 by omega] at this;omega
theorem xU (s:ByteArray) (f:Nat) (hf:f<=s.size) (p:Nat) (h:run (bF s f false) s.size f 0=(p,0)):p<=f+65535/\(∀i,f<=i->i<p->ay s i≠10)/\(s.size<=p\/ay s p=10):=by
 have:=cV (cY s f false) (fun b _=>f<=b/\b<=f+65535/\∀i,f<=i->i<b->ay s i≠10) (fun r=>r.2=0->r.1<=f+65535/\(∀i,f<=i->i<r.1->ay s i≠10)/\(s.size<=r.1\/ay s r.1=10)) ?_ ?_ _ f 0 (gt _) hf ⟨gt _,by omega,fun i h1 h2=>by omega⟩
 ·rw [h] at this;exact this rfl
 ·intro a m p e ha hI hg he;have he':e=0:=he;subst he';unfold bF at hg
  split at hg
  ·simp at hg;subst hg;exact ⟨hI.2.1,hI.2.2,.inl (by assumption)⟩
  ·split at hg
   ·rename_i h1 h2;injection hg with hp _;subst hp;exact ⟨hI.2.1,hI.2.2,.inr h2.2⟩
   ·split at hg
    ·exact absurd (Rd.out.inj hg).2 (by decide)
    ·simp at hg
 ·intro a m n ha hI hg;unfold bF at hg
  split at hg
  ·simp at hg
  ·split at hg
   ·cases hg
   ·split at hg
    ·cases hg
    ·split at hg
     ·cases hg
     ·rename_i h1 h2 h3 h4
      injection hg with hn
      subst hn;refine ⟨by omega,by omega,fun i hi hi2=>?_⟩
      by_cases e:i=a
      ·subst e;exact fun h=>h2 ⟨rfl,h⟩
      ·exact hI.2.2 i hi (by omega)
theorem G0 (h:Tx k T):IN (ay T 0)/\IN (ay T (T.size-1))/\T.size<=65535:=by
 have hT:=h.pos;have hz:(T++dO).size=T.size+1:=by rw [br,QA]
 have e8:∀i,i<T.size->ay (T++dO) i=ay T i:=fun i hi=>eh T dO i hi
 have h0:IN (ay T 0):=by
  refine ⟨fun e=>?_,fun e=>?_⟩
  ·exact h.k0 (by rw [<-h.bg];exact tG (.inr (by rw [e8 0 hT,e];rfl)))
  ·exact h.k0 (by rw [<-h.bg];exact tG (.inl (by rw [e8 0 hT,e])))
 refine ⟨h0,?_⟩
 have row:∀k,(k=1\/k=3)->run (cf (T++dO) 0 k) (T++dO).size 0 0=(T.size,0)->IN (ay T (T.size-1))/\T.size<=65535:=by
  intro k hk hr;have:=cV (cX (T++dO) 0 k) (fun b _=>b=0\/(IN (ay (T++dO) (b-1))/\b<=65535)) (fun r=>r.2=0->r.1=0\/(IN (ay (T++dO) (r.1-1))/\r.1<=65535)) ?_ ?_ _ 0 0 (gt _) (QK _) (.inl rfl)
  ·rw [hr] at this
   rcases this rfl with h1|h1
   ·have h1':T.size=0:=h1;omega
   ·have h1':IN (ay (T++dO) (T.size-1))/\T.size<=65535:=h1;rw [e8 _ (by omega)] at h1';exact h1'
  ·intro a m p e ha hI hg he;have he':e=0:=he;subst he';unfold cf at hg
   split at hg
   ·injection hg with hp _;subst hp;exact hI
   ·split at hg
    ·injection hg with hp _;subst hp;exact hI
    ·split at hg
     ·exact absurd (Rd.out.inj hg).2 (by decide)
     ·cases hg
  ·intro a m n ha hI hg;have hn1:=(cX (T++dO) 0 k a m n hg).1;unfold cf at hg
   split at hg
   ·cases hg
   ·rename_i h1
    split at hg
    ·cases hg
    ·rename_i h2
     split at hg
     ·cases hg
     ·rename_i h3
      injection hg with hn
      subst hn;refine .inr ⟨?_,by omega⟩
      have key:∀c,c<128->ay (T++dO) (a+dw (T++dO) a-1)=c->ay (T++dO) a=c:=by
       intro c hc e;have:=F0 (T++dO) a hn1 (by omega) (by omega);rw [this,TY] at e;exact e
      have no:∀c,c<128->jC (c:Nat)=false->cJ c=false->ay (T++dO) a≠c:=by
       intro c hc hp hd e
       apply h2
       rcases hk with rfl|rfl
       ·refine .inl ⟨rfl,?_⟩;rw [(bq (T++dO) a (by omega)).2.1,e,hp,SX]
       ·exact .inr ⟨rfl,by rw [e];exact hd⟩
      exact ⟨fun e=>no 32 (by decide) gY.2.1 rfl (key 32 (by decide) e),fun e=>no 10 (by decide) gY.1 rfl (key 10 (by decide) e)⟩
 have quo:∀q o,(q=34\/q=39)->run (cq (T++dO) 0 q o) (T++dO).size (0+1) 0=(T.size,0)->IN (ay T (T.size-1))/\T.size<=65535:=by
  intro q o hq hr;have:=cV (eS (T++dO) 0 q o) (fun b _=>True) (fun r=>r.2=0->ay (T++dO) (r.1-1)=q/\r.1<=65535) ?_ ?_ _ 1 0 (gt _) (by omega) trivial
  ·rw [hr] at this;obtain ⟨x1,x2⟩:=this rfl;have x1':ay (T++dO) (T.size-1)=q:=x1;rw [e8 _ (by omega)] at x1';exact ⟨⟨by omega,by omega⟩,x2⟩
  ·intro a m p e ha hI hg he;have he':e=0:=he;subst he';unfold cq at hg
   split at hg
   ·exact absurd (Rd.out.inj hg).2 (by decide)
   ·split at hg
    ·exact absurd (Rd.out.inj hg).2 (by decide)
    ·rename_i h1 h2
     split at hg
     ·rename_i h3
      injection hg with hp _
      subst hp;have:=(bq (T++dO) a (by omega)).1;exact ⟨by rw [TY];exact h3.1,by show a+1<=65535;omega⟩
     ·split at hg
      ·exact absurd (Rd.out.inj hg).2 (by decide)
      ·cases hg
  ·intro a m n ha hI hg;trivial
 have blk:run (bF (T++dO) 0 true) (T++dO).size 0 0=(T.size,0)->IN (ay T (T.size-1))/\T.size<=65535:=by
  intro hr;have:=cV (cY (T++dO) 0 true) (fun b _=>True) (fun r=>r.2=0->ay (T++dO) (r.1-1)=125/\r.1<=65535) ?_ ?_ _ 0 0 (gt _) (QK _) trivial
  ·rw [hr] at this;obtain ⟨x1,x2⟩:=this rfl;have x1':ay (T++dO) (T.size-1)=125:=x1;rw [e8 _ (by omega)] at x1';exact ⟨⟨by omega,by omega⟩,x2⟩
  ·intro a m p e ha hI hg he;have he':e=0:=he;subst he';unfold bF at hg
   split at hg
   ·simp at hg
   ·split at hg
    ·rename_i h;cases h.1
    ·split at hg
     ·exact absurd (Rd.out.inj hg).2 (by decide)
     ·split at hg
      ·rename_i h3 h4
       injection hg with hp _
       subst hp;exact ⟨by rw [TY];exact h4.2,by show a+1<=65535;omega⟩
      ·cases hg
  ·intro a m n ha hI hg;trivial
 have he:=h.en;have hb:=h.bg;have hk0:=h.k0;have hbl:=h.bl;unfold ap at he
 rcases F8 (T++dO) 0 with e|e|e|e|e|e|e|e <;> rw [hb] at e <;> subst e
 ·exact absurd rfl hk0
 ·exact row 1 (.inl rfl) he
 ·exact row 3 (.inr rfl) he
 ·exact quo 34 false (.inl rfl) he
 ·exact quo 39 true (.inr rfl) he
 ·have hz6:(sg (T++dO) 0).size=T.size:=by
   have:0+(sg (T++dO) 0).size=T.size:=Q0 Prod.fst he;omega
  obtain ⟨_,x2,x3⟩:=jJ (T++dO) 0 (by omega);rw [hz6,QU,kK] at x2;rw [<-x2] at x3;have h2:=LL (T++dO) 0;exact ⟨(qF T x3).2,by omega⟩
 ·have hr:run (bF (T++dO) 0 false) (T++dO).size 0 0=(T.size,0):=he;obtain ⟨y1,y2,_⟩:=xU _ 0 (QK _) _ hr;have h10:=y2 (T.size-1) (QK _) (by omega);rw [e8 _ (by omega)] at h10;have hb7:=hbl rfl;refine ⟨⟨fun e=>?_,h10⟩,by omega⟩;rw [e] at hb7;cases hb7
 ·exact blk he
theorem Qq (s:ByteArray) (a p:Nat) (ha:a<=p) (hp:p<=s.size):s=s.extract 0 a++(s.extract a p++s.extract p s.size):=by
 have z1:=az s 0 a (by omega);have z2:=az s a p hp;have z3:=az s p s.size (gt _);refine eX _ _ (by rw [br,br];omega) (fun i hi=>?_);rw [bN,bN]
 split
 ·rw [aR s 0 a i (by omega),QU]
 ·split
  ·rw [aR s a p _ (by omega)];congr 1;omega
  ·rw [aR s p s.size _ (by omega)];congr 1;omega
theorem LG (s:ByteArray) (a k p:Nat) (ha:a<s.size) (hb:ak s a=k) (h0:k≠0) (he:ap s a k=(p,0)):Tx k (s.extract a (if k=7 then aY s p else p)):=by
 obtain ⟨hap,hp⟩:=ej s a k p ha hb h0 he;have zA:=az s 0 a (by omega);have zT:=az s a p hp;have hs:=Qq s a p (by omega) hp;obtain ⟨A,hA⟩:∃A,s.extract 0 a=A:=⟨_,rfl⟩;obtain ⟨T,hT⟩:∃T,s.extract a p=T:=⟨_,rfl⟩;obtain ⟨R,hR⟩:∃R,s.extract p s.size=R:=⟨_,rfl⟩;rw [hA,hT,hR] at hs;rw [hA] at zA;rw [hT] at zT
 have hb2:ak (T++R) 0=k:=by
  rw [<-pY A (T++R) 0,<-hs,R7,zA,UI];exact hb
 have he2:ap (T++R) 0 k=(T.size,0):=by
  have:=pO A (T++R) 0 k (by rw [br];omega);rw [<-hs,R7,zA,UI,he] at this;have h1:p=a+(ap (T++R) 0 k).1:=Q0 Prod.fst this;have h2:0=(ap (T++R) 0 k).2:=Q0 Prod.snd this;exact UJ (by show _=T.size;omega) h2.symm
 have hTp:0<T.size:=by omega
 by_cases hk:k=7
 ·rw [IO hk];subst hk;have hr:run (bF s a false) s.size a 0=(p,0):=he;obtain ⟨y1,y2,y3⟩:=xU s a (by omega) p hr
  have h47:ay s a=47/\a+1<s.size/\ay s (a+1)=47:=by
   unfold ak at hb
   split at hb
   ·exact absurd hb (by decide)
   ·split at hb
    ·exact absurd hb (by decide)
    ·split at hb
     ·exact absurd hb (by decide)
     ·split at hb
      ·exact absurd hb (by decide)
      ·split at hb
       ·assumption
       ·split at hb
        ·exact absurd hb (by decide)
        ·split at hb
         ·exact absurd hb (by decide)
         ·exact absurd hb (by decide)
  have hp2:a+1<p:=by
   apply Rv;intro hn
   have e:p=a+1:=by omega
   rcases y3 with h|h
   ·omega
   ·rw [e] at h;omega
  have ht2:=iX s (a+1) (by rw [h47.2.2];rfl) p hp2;have htl:=fO s p;obtain ⟨q,hq⟩:∃q,aY s p=q:=⟨_,rfl⟩;rw [hq] at ht2 htl ⊢;have zU:=az s a q (by omega);obtain ⟨U,hU⟩:∃U,s.extract a q=U:=⟨_,rfl⟩;have e8:∀i,i<U.size->ay U i=ay s (a+i):=fun i hi=>by rw [<-hU,aR s a q i (by rw [hU] at zU;omega)]
  rw [hU] at zU ⊢;have zL:(U++dO).size=U.size+1:=by rw [br,QA]
  have f8:∀i,i<U.size->ay (U++dO) i=ay U i:=fun i hi=>eh U dO i hi
  have hrun:∀d b m,U.size-b<=d->b<=U.size->run (bF (U++dO) 0 false) (U++dO).size b m=(U.size,0):=by
   intro d
   induction d with
   |zero=>
    intro b m hd hbU;obtain rfl:b=U.size:=by omega
    refine cj (by omega) ?_;unfold bF;rw [Eq (by omega),IO ⟨rfl,by rw [bN,Eq (by omega),TS];rfl⟩]
   |succ d ih=>
    intro b m hd hbU
    by_cases hbe:b=U.size
    ·subst hbe;refine cj (by omega) ?_;unfold bF;rw [Eq (by omega),IO ⟨rfl,by rw [bN,Eq (by omega),TS];rfl⟩]
    ·have hg:bF (U++dO) 0 false b m=.on 1:=by
      unfold bF;rw [Eq (by omega),Eq (by rw [f8 b (by omega),e8 b (by omega)];exact fun h=>y2 (a+b) (by omega) (by omega) h.2),Eq (by omega),Eq (by simp)]
     rw [fy (cY _ _ _) (by omega) hg];exact ih (b+1) (m+1) (by omega) (by omega)
  refine ⟨by omega,by decide,?_,hrun _ 0 0 (gt _) (QK _),fun _=>?_⟩
  ·have b0:ay (U++dO) 0=47:=by rw [f8 0 (by omega),e8 0 (by omega)];exact h47.1
   have b1:ay (U++dO) (0+1)=47:=by rw [f8 1 (by omega),e8 1 (by omega)];exact h47.2.2
   obtain ⟨c1,c2,c3⟩:=bq (U++dO) 0 (by omega);unfold ak;rw [Eq (by rw [c2,b0,show fC (47:Nat)=false by decide,SX];decide),b0,Eq (by decide),Eq (by decide),Eq (by decide),IO ⟨rfl,by omega,b1⟩]
  ·rw [e8 _ (by omega),show a+(U.size-1)=q-1 by omega]
   have:∀p,0<aY s p->cQ (ay s (aY s p-1))=false:=by
    intro p
    induction p with
    |zero=>intro h;exact absurd (show 0<0 from h) (by decide)
    |succ p ih=>
     unfold aY
     split
     ·exact ih
     ·rename_i h;intro _;simpa using h
   rw [<-hq];exact this p (by omega)
 ·rw [Eq hk,hT];exact ⟨hTp,h0,wv T R dO k hTp hb2 h0 he2 (E5 k T),vM T R dO k hTp hb2 h0 he2 (E5 k T),fun h=>absurd h hk⟩
def wL (k:Nat) (T:ByteArray):Nat:=if k=1/\ky T=true then 2 else k
theorem pE (s:ByteArray):∀(d a f:Nat),s.size-a<=d->(gS s a f).2.1=0->(∀t∈(gS s a f).1,∃k,Tx k (s.extract t.a t.e)/\t.k=wL k (s.extract t.a t.e))/\(∀t,(gS s a f).1[0]?=some t->f<=t.f)/\∀(i:Nat) t u,(gS s a f).1[i]?=some t->(gS s a f).1[i+1]?=some u->t.k=7->1<=u.f
 |d,a,f,hd,h0=>by
  by_cases ha:s.size<=a
  ·rw [eC s a f ha];exact ⟨fun t ht=>by simp at ht,fun t ht=>by simp at ht,fun i t u ht=>by simp at ht⟩
  ·rw [ci s a f (by omega)] at h0 ⊢;cases d with
   |zero=>omega
   |succ d=>
   split at h0
   ·rename_i h1
    rw [IO h1];obtain ⟨x1,x2,x3⟩:=pE s d (a+1) (f+1) (by omega) h0;exact ⟨x1,fun t ht=>by have:=x2 t ht;omega,x3⟩
   ·rename_i h1
    rw [Eq h1]
    split at h0
    ·rename_i h2
     rw [IO h2];exact pE s d (a+1) f (by omega) h0
    ·rename_i h2
     rw [Eq h2]
     split at h0
     ·exact absurd (show (100:Nat)=0 from h0) (by decide)
     ·rename_i h3
      rw [Eq h3]
      split at h0
      ·rename_i h4;exact absurd h0 h4
      ·rename_i h4
       rw [Eq h4];have he:ap s a (ak s a)=((ap s a (ak s a)).1,0):=UJ rfl (by simpa using h4);obtain ⟨hap,hp⟩:=ej s a _ _ (by omega) rfl h3 he;have htx:=LG s a _ _ (by omega) rfl h3 he;obtain ⟨p,hpp⟩:∃p,(ap s a (ak s a)).1=p:=⟨_,rfl⟩;rw [hpp] at he hap hp htx h0 ⊢;obtain ⟨x1,x2,x3⟩:=pE s d p 0 (by omega) h0
       have hkk:(cM s (ak s a) a p f).k=wL (ak s a) (s.extract a (if ak s a=7 then aY s p else p)):=by
        show (if ak s a=1/\ky (s.extract a p)=true then 2 else ak s a)=_
        unfold wL
        by_cases e7:ak s a=7
        ·rw [e7];rfl
        ·rw [Eq e7]
       refine ⟨?_,fun t ht=>?_,?_⟩
       ·intro t ht
        rcases Rg.1 ht with rfl|ht
        ·exact ⟨ak s a,htx,hkk⟩
        ·exact x1 t ht
       ·simp at ht;subst ht;exact gt _
       ·intro i t u ht hu hk;cases i with
        |succ i=>exact x3 i t u ht hu hk
        |zero=>
         simp at ht;subst ht
         have h7:ak s a=7:=by
          rw [hkk] at hk
          generalize s.extract a (if ak s a=7 then aY s p else p)=X at hk
          unfold wL at hk
          split at hk
          ·exact absurd hk (by decide)
          ·exact hk
         have hr:run (bF s a false) s.size a 0=(p,0):=by rw [h7] at he;exact he
         obtain ⟨_,_,y3⟩:=xU s a (by omega) p hr;have hu':(gS s p 0).1[0]?=some u:=hu
         rcases y3 with y3|y3
         ·rw [eC s p 0 y3] at hu';simp at hu'
         ·by_cases hps:s.size<=p
          ·rw [eC s p 0 hps] at hu';simp at hu'
          ·rw [ci s p 0 (by omega),IO y3] at hu' h0;have:=(pE s d (p+1) 1 (by omega) h0).2.1 u hu';omega
termination_by d=>d
def m9 (c:UInt8) (n:Nat):ByteArray:=⟨(List.replicate n c).toArray⟩
theorem dd (c:UInt8) (n:Nat):(m9 c n).size=n:=by show (List.replicate n c).toArray.size=n;simp
theorem kr (c:UInt8) (n i:Nat) (h:i<n):ay (m9 c n) i=c.toNat:=by
 have h':i<(List.replicate n c).toArray.size:=by simpa using h
 unfold ay;show ((List.replicate n c).toArray[i]!).toNat=_;rw [Ue _ i h'];simp
theorem pF (s:ByteArray):∀(n i f:Nat),i+n<=s.size->(∀j,i<=j->j<i+n->ay s j=10)->gS s i f=gS s (i+n) (f+n)
 |0,i,f,_,_=>rfl
 |n+1,i,f,h,hb=>by
  rw [ci s i f (by omega),IO (hb i (gt _) (by omega)),pF s n (i+1) (f+1) (by omega) (fun j h1 h2=>hb j (by omega) (by omega)),show i+1+n=i+(n+1) by omega,show f+1+n=f+(n+1) by omega]
theorem pG (s:ByteArray):∀(n i f:Nat),i+n<=s.size->(∀j,i<=j->j<i+n->ay s j=32)->gS s i f=gS s (i+n) f
 |0,i,f,_,_=>rfl
 |n+1,i,f,h,hb=>by
  have h1:=hb i (gt _) (by omega);rw [ci s i f (by omega),Eq (by omega),IO (by rw [h1];rfl),pG s n (i+1) f (by omega) (fun j h1 h2=>hb j (by omega) (by omega)),show i+1+n=i+(n+1) by omega]
def vw (s:ByteArray) (t:Tk):Nat × ByteArray × Nat:=(t.k,s.extract t.a t.e,t.f)
def Cw (s:ByteArray) (f:Nat) (l:List (Nat × ByteArray × Nat)):Prop:=(gS s 0 f).2.1=0/\(gS s 0 f).1.map (vw s)=l
theorem Kv (a c:ByteArray) (f:Nat):((gS c 0 f).1.map (Tk.up a.size)).map (vw (a++c))=(gS c 0 f).1.map (vw c):=by
 rw [Vf];refine List.map_congr_left (fun t ht=>?_);have:=iL c _ 0 f (gt _) t ht;show (t.k,(a++c).extract (a.size+t.a) (a.size+t.e),t.f)=_;rw [pK a c t.a t.e this.2.2];rfl
theorem Ij {R:ByteArray}{f b:Nat}{l:List (Nat × ByteArray × Nat)}(h:Cw R (f+a) l):Cw (m9 10 a++(m9 32 b++R)) f l:=by
 have z1:=dd 10 a;have z2:=dd 32 b;obtain ⟨X,hX⟩:∃X,m9 10 a++m9 32 b=X:=⟨_,rfl⟩;have zX:X.size=a+b:=by rw [<-hX,br,z1,z2]
 have e:m9 10 a++(m9 32 b++R)=X++R:=by rw [<-hX,ByteArray.append_assoc]
 have z:(X++R).size=a+b+R.size:=by rw [br,zX]
 have e8:∀i,i<a+b->ay (X++R) i=if i<a then 10 else 32:=by
  intro i hi;rw [bN,IO (by omega),<-hX,bN,z1]
  split
  ·rw [kr _ _ _ (by assumption)];rfl
  ·rw [kr _ _ _ (by omega)];rfl
 rw [e];unfold Cw;rw [pF (X++R) a 0 f (by omega) (fun j h1 h2=>by rw [e8 j (by omega),IO (by omega)]),pG (X++R) b (0+a) (f+a) (by omega) (fun j h1 h2=>by rw [e8 j (by omega),Eq (by omega)])];have h2:=fU X R _ 0 (f+a) (gt _);rw [show 0+a+b=X.size+0 by omega,h2];exact ⟨h.1,by rw [Kv];exact h.2⟩
theorem yL {k:Nat}{T R:ByteArray}{f:Nat}{l:List (Nat × ByteArray × Nat)}(hT:Tx k T) (hF:Kn k T R) (h:Cw R 0 l):Cw (T++R) f ((wL k T,T,f) :: l):=by
 have hp:=hT.pos;have z:(T++R).size=T.size+R.size:=br _ _;have hb:=wv T dO R k hp hT.bg hT.k0 hT.en hF;have he:=vM T dO R k hp hT.bg hT.k0 hT.en hF;have h10:¬ay (T++R) 0=10:=fun e=>hT.k0 (by rw [<-hb];exact tG (.inl e))
 have hbl:¬cQ (ay (T++R) 0)=true:=fun e=>hT.k0 (by rw [<-hb];exact tG (.inr e))
 have h2:=fU T R _ 0 0 (gt _);rw [R7] at h2
 have hend:(if k=7 then aY (T++R) T.size else T.size)=T.size:=by
  split
  ·rename_i h7
   have:=hT.bl h7;obtain ⟨q,hq⟩:∃q,T.size=q+1:=⟨T.size-1,by omega⟩;rw [hq];unfold aY;rw [Eq];rw [eh T R q (by omega)];rw [hq,TY] at this;rw [this];decide
  ·rfl
 unfold Cw;rw [ci (T++R) 0 f (by omega),Eq h10,Eq hbl,Eq (by rw [hb];exact hT.k0),hb,he,Eq (by simp)];show (gS (T++R) T.size 0).2.1=0/\vw (T++R) (cM (T++R) k 0 T.size f) :: (gS (T++R) T.size 0).1.map (vw (T++R))=_;rw [h2];refine ⟨h.1,?_⟩;show _ :: ((gS R 0 0).1.map (Tk.up T.size)).map (vw (T++R))=_;rw [Kv,h.2]
 congr 1
 show ((if k=1/\ky ((T++R).extract 0 T.size)=true then 2 else k),(T++R).extract 0 (if k=7 then aY (T++R) T.size else T.size),f)=_
 rw [hend,kK];rfl
theorem Ik (e f:Nat):Cw (m9 10 e) f []:=by
 have z:=dd 10 e;unfold Cw;rw [pF (m9 10 e) e 0 f (by omega) (fun j _ h2=>by rw [kr _ _ _ (by omega)];rfl),eC _ _ _ (by omega)];exact ⟨rfl,rfl⟩
theorem Jv {i:Nat}(h:ay s i / 64=2):gd s i=false:=by
 have e:Utf8.decode s i=(65533,1):=by
  rw [bX];unfold D;have n1:(ay s i / 32 == 6)=false:=Q7.2 (by omega);have n2:(ay s i / 16 == 14)=false:=Q7.2 (by omega);have n3:(ay s i / 8 == 30)=false:=Q7.2 (by omega);rw [Eq (by omega),n1,n2,n3];rfl
 unfold gd dp dw;rw [e];rfl
theorem oZ:fC (61:Nat)=false/\fC (46:Nat)=false/\fC (47:Nat)=false:=by decide
structure Pm (k:Nat) (T:ByteArray):Prop where
 nc:¬ay T 0 / 64=2
 f1:k=1->ay T 0≠61/\ay T 0≠46/\ay T 0≠47
 f3:k=3->cJ (ay T 0)=true
 f4:k=4->ay T 0=34
 f5:k=5->ay T 0=39
 f6:k=6->T∈bh
 f7:k=7->ay T 0=47
 f8:k=8->ay T 0=123
 ks:k=1\/k=3\/k=4\/k=5\/k=6\/k=7\/k=8
theorem tZ (h:Tx k T):Pm k T:=by
 have hp:=h.pos;have e8:ay (T++dO) 0=ay T 0:=eh T dO 0 hp;have hb:=h.bg
 have hks:k=1\/k=3\/k=4\/k=5\/k=6\/k=7\/k=8:=by
  have:=F8 (T++dO) 0;rw [hb] at this;have:=h.k0;omega
 have h1:k=1->(gd (T++dO) 0 && fC (dp (T++dO) 0))=true:=by
  intro hk;rw [hk] at hb;unfold ak at hb
  split at hb
  ·assumption
  ·repeat' (split at hb)
   all_goals exact absurd hb (by decide)
 have hasc:k≠1->ay T 0<128:=fun hk=>by rw [<-e8];exact (tH hb h.k0 hk).1
 have h6:k=6->T∈bh:=by
  intro hk;have he:=h.en;rw [hk] at he
  have hz:(sg (T++dO) 0).size=T.size:=by
   have:0+(sg (T++dO) 0).size=T.size:=Q0 Prod.fst he;omega
  obtain ⟨_,x2,x3⟩:=jJ (T++dO) 0 (by omega);rw [hz,QU,kK] at x2;rw [<-x2] at x3;exact x3
 have hu:∀j,k=j->j≠1->ak (T++dO) 0=j/\¬(gd (T++dO) 0 && fC (dp (T++dO) 0))=true:=fun j hk hj=>⟨by rw [hb,hk],by rw [(tH hb h.k0 (by omega)).2];decide⟩
 refine ⟨?_,?_,?_,?_,?_,h6,?_,?_,hks⟩
 ·by_cases hk:k=1
  ·intro e;rw [<-e8] at e;have:=h1 hk;rw [Jv e] at this;cases this
  ·have:=hasc hk;omega
 ·intro hk;have:=h1 hk;rw [QR] at this
  have key:∀c,c<128->fC (c:Nat)=false->ay T 0≠c:=by
   intro c hc hl e;rw [(bq (T++dO) 0 (by rw [e8,e];exact hc)).2.1,e8,e,hl] at this;cases this.2
  exact ⟨key 61 (by decide) oZ.1,key 46 (by decide) oZ.2.1,key 47 (by decide) oZ.2.2⟩
 ·intro hk;obtain ⟨x,y⟩:=hu 3 hk (by decide);unfold ak at x;rw [Eq y] at x
  split at x
  ·rename_i hd;rw [<-e8];exact hd
  ·repeat' (split at x)
   all_goals exact absurd x (by decide)
 ·intro hk;obtain ⟨x,y⟩:=hu 4 hk (by decide);unfold ak at x;rw [Eq y] at x
  split at x
  ·exact absurd x (by decide)
  ·split at x
   ·rename_i hd;rw [<-e8];exact hd
   ·repeat' (split at x)
    all_goals exact absurd x (by decide)
 ·intro hk;obtain ⟨x,y⟩:=hu 5 hk (by decide);unfold ak at x;rw [Eq y] at x
  split at x
  ·exact absurd x (by decide)
  ·split at x
   ·exact absurd x (by decide)
   ·split at x
    ·rename_i hd;rw [<-e8];exact hd
    ·repeat' (split at x)
     all_goals exact absurd x (by decide)
 ·intro hk;obtain ⟨x,y⟩:=hu 7 hk (by decide);unfold ak at x;rw [Eq y] at x
  split at x
  ·exact absurd x (by decide)
  ·split at x
   ·exact absurd x (by decide)
   ·split at x
    ·exact absurd x (by decide)
    ·split at x
     ·rename_i hd;rw [<-e8];exact hd.1
     ·repeat' (split at x)
      all_goals exact absurd x (by decide)
 ·intro hk;obtain ⟨x,y⟩:=hu 8 hk (by decide);unfold ak at x;rw [Eq y] at x
  split at x
  ·exact absurd x (by decide)
  ·split at x
   ·exact absurd x (by decide)
   ·split at x
    ·exact absurd x (by decide)
    ·split at x
     ·exact absurd x (by decide)
     ·split at x
      ·rename_i hd;rw [<-e8];exact hd
      ·repeat' (split at x)
       all_goals exact absurd x (by decide)
structure Cy (k:Nat) (T:ByteArray) (c:Nat):Prop where
 nc:¬c / 64=2
 f1:k=1->c<128/\jC (c:Nat)=false
 f3:k=3->cJ c=false
 f6:k=6->T.size=1->(∀x∈bh,x.size=2->ay x 0=ay T 0->ay x 1≠c)/\¬(ay T 0=47/\c=47)
 f7:k=7->c=10
theorem kI {k:Nat}{T R:ByteArray}{c:Nat}(h:Cy k T c) (hR:0<R.size) (hc:ay R 0=c):Kn k T R:=by
 refine ⟨?_,fun hk _=>by rw [hc];exact h.f1 hk,fun hk _=>by rw [hc];exact h.f3 hk,fun hk hs _=>by rw [hc];exact h.f6 hk hs,fun hk _=>by rw [hc];exact h.f7 hk⟩;unfold ob;rw [IO hR,hc];show (c / 64 == 2)=false;exact Q7.2 h.nc
theorem ir:∀x∈bh,x.size=2->(ay x 1=61\/ay x 1=46)/\(ay x 0=58\/ay x 0=46\/ay x 0=60\/ay x 0=62):=by decide
theorem vH (k:Nat) (T:ByteArray):Cy k T 10:=
 ⟨by decide,fun _=>⟨by decide,gY.1⟩,fun _=>rfl,fun _ _=>⟨fun x hx h2 _ h3=>by have:=(ir x hx h2).1;omega,fun h=>absurd h.2 (by decide)⟩,fun _=>rfl⟩
theorem xM (T:ByteArray) (h:k≠7):Cy k T 32:=
 ⟨by decide,fun _=>⟨by decide,gY.2.1⟩,fun _=>rfl,fun _ _=>⟨fun x hx h2 _ h3=>by have:=(ir x hx h2).1;omega,fun h=>absurd h.2 (by decide)⟩,fun h7=>absurd h7 h⟩
theorem AO:∀x∈bh,ay x 0<128/\jC (ay x 0:Nat)=false/\cJ (ay x 0)=false:=by decide
theorem D1:jC (34:Nat)=false/\jC (39:Nat)=false:=by decide
theorem EZ {k':Nat}{T':ByteArray}(h7:k≠7) (hF:Pm k' T') (hn:k'≠7/\k'≠8) (hw:¬((k=1\/k=3)/\(k'=1\/k'=3)))
  (hd:k=6->T.size=1->(ay T 0=60\/ay T 0=62\/ay T 0=58\/ay T 0=47\/ay T 0=46)->k'=6->ay T' 0≠61/\ay T' 0≠46/\ay T' 0≠47):Cy k T (ay T' 0):=by
 have hk':¬(k'=1\/k'=3)->ay T' 0<128/\jC (ay T' 0:Nat)=false/\cJ (ay T' 0)=false:=by
  intro h
  rcases hF.ks with e|e|e|e|e|e|e
  ·exact absurd (.inl e) h
  ·exact absurd (.inr e) h
  ·rw [hF.f4 e];exact ⟨by decide,D1.1,rfl⟩
  ·rw [hF.f5 e];exact ⟨by decide,D1.2,rfl⟩
  ·exact AO T' (hF.f6 e)
  ·exact absurd e hn.1
  ·exact absurd e hn.2
 refine ⟨hF.nc,fun e=>?_,fun e=>?_,fun e hs=>?_,fun e=>absurd e h7⟩
 ·obtain ⟨a,b,_⟩:=hk' (fun h=>hw ⟨.inl e,h⟩);exact ⟨a,b⟩
 ·exact (hk' (fun h=>hw ⟨.inr e,h⟩)).2.2
 ·have key:(ay T 0=60\/ay T 0=62\/ay T 0=58\/ay T 0=47\/ay T 0=46)->ay T' 0≠61/\ay T' 0≠46/\ay T' 0≠47:=by
   intro hst
   rcases hF.ks with x|x|x|x|x|x|x
   ·exact hF.f1 x
   ·have:=hF.f3 x;unfold cJ at this;simp only [QR,Rj] at this;omega
   ·rw [hF.f4 x];decide
   ·rw [hF.f5 x];decide
   ·exact hd e hs hst x
   ·exact absurd x hn.1
   ·exact absurd x hn.2
  refine ⟨fun x hx h2 h0 h1=>?_,fun ⟨h0,h1⟩=>?_⟩
  ·obtain ⟨a,b⟩:=ir x hx h2;obtain ⟨c1,c2,_⟩:=key (by omega);omega
  ·exact (key (by omega)).2.2 h1
end Go.Proofs.YtjiepkenkcgkhaaGreatDoor.Lx
