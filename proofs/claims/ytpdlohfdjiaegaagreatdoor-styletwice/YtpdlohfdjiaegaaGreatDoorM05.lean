import Derived.Test.YtpdlohfdjiaegaaGreatDoorM04
set_option linter.unusedVariables false
set_option linter.unusedSimpArgs false
namespace Go.Proofs.YtpdlohfdjiaegaaGreatDoor.Lx
open Go.RowKit
variable {a z P k:Nat}{s:ByteArray}
theorem tg (T:ByteArray):T.extract 0 T.size=T:=by
 have z:=aj T 0 T.size (Nat.le_refl _);exact cZ _ _ (by rw [z];omega) (fun i hi=>by rw [aF T 0 T.size i (by omega),Nat.zero_add])
theorem gH (T R:ByteArray):(T++R).extract 0 T.size=T:=by rw [kQ T R 0 T.size (Nat.le_refl _),tg]
theorem Be (T R:ByteArray) (i:Nat) (hi:i<T.size) (hd:i+dw (T++R) i<=T.size):Utf8.decode T i=Utf8.decode (T++R) i:=by
 have h:=yX (T++R) 0 T.size i (Nat.zero_le _) (by rw [aP];omega) (by omega) (by rw [Nat.zero_add];exact hd);rw [gH,Nat.zero_add] at h;exact h
theorem j6 (T R0 R1:ByteArray) (h:ct (ob R1 0)=false) (i:Nat) (hi:i<T.size) (hd:i+dw (T++R0) i<=T.size):gd (T++R1) i=gd (T++R0) i/\dp (T++R1) i=dp (T++R0) i/\dw (T++R1) i=dw (T++R0) i:=by
 have e:Utf8.decode (T++R1) i=Utf8.decode (T++R0) i:=(tu T R1 h i hi).trans (Be T R0 i hi hd);unfold gd dp dw;rw [e];exact ⟨rfl,rfl,rfl⟩
theorem dq (T R0 R1:ByteArray) (i:Nat) (hi:i<T.size):by8 (T++R1) i=by8 (T++R0) i:=by rw [cF T R1 i hi,cF T R0 i hi]
theorem fg {g g':Nat->Nat->Rd}{z':Nat}(hg:dU g z) (hg':dU g' z') (hP:P<=z') (hge:∀b m p,g b m=.out p 0->b<=p)
  (h1:∀b m,b<=P->g b m=.out P 0->g' b m=.out P 0) (h2:∀b m n,g b m=.on n->b+n<=P->g' b m=.on n) :
  ∀(d a m:Nat),z-a<=d->a<=z->run g z a m=(P,0)->a<=P/\run g' z' a m=(P,0)
 |d,a,m,hd,ha,h=>by
  cases e:g a m with
  |out p q=>
   rw [bG ha e] at h;injection h with hp hq
   subst hp hq;have hap:=hge a m p e;exact ⟨hap,bG (by omega) (h1 a m hap e)⟩
  |on n=>
   obtain ⟨h3,h4⟩:=hg a m n e;rw [du hg ha e] at h;cases d with
   |zero=>omega
   |succ d=>
    obtain ⟨h5,h6⟩:=fg hg hg' hP hge h1 h2 d (a+n) (m+1) (by omega) h4 h;have e':=h2 a m n e h5;exact ⟨by omega,by rw [du hg' (by omega) e'];exact h6⟩
structure Fol (k:Nat) (T R:ByteArray):Prop where
 nc:ct (ob R 0)=false
 f1:k=1->0<R.size->by8 R 0<128/\pr' (by8 R 0:Nat)=false
 f3:k=3->0<R.size->bN (by8 R 0)=false
 f6:k=6->T.size=1->0<R.size->(∀x∈aL,x.size=2->by8 x 0=by8 T 0->by8 x 1≠by8 R 0)/\¬(by8 T 0=47/\by8 R 0=47)
 f7:k=7->0<R.size->by8 R 0=10
theorem wO (s:ByteArray) (a:Nat):ag s a=0\/ag s a=1\/ag s a=3\/ag s a=4\/ag s a=5\/ag s a=6\/ag s a=7\/ag s a=8:=by
 unfold ag
 repeat' split
 all_goals simp
theorem rW:∀x∈aL.drop 4,x.size=1:=by decide
theorem uu (x:ByteArray) (hx:x∈aL) (h:x.size=2):x∈aL.take 4:=by
 rw [<-List.take_append_drop 4 aL] at hx
 rcases List.mem_append.1 hx with h1|h1
 ·exact h1
 ·have:=rW x h1;omega
theorem r6:∀x∈aL.take 4,x.size=2:=by decide
theorem oR:∀x∈aL,x.size=1\/x.size=2:=by decide
theorem wa {f:ByteArray->Bool}{y:ByteArray}(h:aL.find? f=some y) (hy:y.size=1):∀x∈aL,x.size=2->f x=false:=by
 intro x hx h2;rw [<-List.take_append_drop 4 aL,List.find?_append] at h;cases hc:(aL.take 4).find? f with
 |none=>
  have:=List.find?_eq_none.1 hc x (uu x hx h2)
  simpa using this
 |some z=>
  rw [hc] at h;cases h;have:=r6 y (List.mem_of_find?_eq_some hc);omega
theorem qx (T R:ByteArray) (x:ByteArray) (h:x.size<=T.size):pre (T++R) 0 x=pre T 0 x:=by
 unfold pre;rw [Nat.zero_add,kQ T R 0 x.size h]
 apply decide_eq_decide.2
 rw [aP];constructor
 ·exact fun h'=>⟨h,h'.2⟩
 ·exact fun h'=>⟨by omega,h'.2⟩
theorem qm (T R0 R1:ByteArray) (hT:0<T.size) (h:(sg (T++R0) 0).size=T.size) (hF:Fol 6 T R1):sg (T++R1) 0=sg (T++R0) 0:=by
 unfold sg
 have hs:sg (T++R0) 0=T:=by
  obtain ⟨h1,h2,_⟩:=fU (T++R0) 0 (by omega);rw [h,Nat.zero_add,gH] at h2;exact h2.symm
 have hTs:T∈aL:=by rw [<-hs];exact (fU (T++R0) 0 (by omega)).2.2
 have hf:aL.find? (pre (T++R0) 0)=some T:=by
  unfold sg at hs;cases hc:aL.find? (pre (T++R0) 0) with
  |none=>rw [hc] at hs;exfalso;rw [<-hs] at hT;exact absurd hT (by decide)
  |some y=>rw [hc] at hs;exact congrArg some hs
 rw [jV (g:=pre (T++R0) 0)];intro x hx
 rcases Nat.lt_or_ge T.size x.size with hlt|hge
 ·have h2:x.size=2:=by rcases oR x hx with e|e <;> omega
  have h1:T.size=1:=by omega
  rw [wa hf h1 x hx h2];unfold pre
  apply decide_eq_false
  rintro ⟨a1,a2⟩;rw [aP] at a1
  have b0:by8 x 0=by8 T 0:=by
   rw [<-a2,aF _ 0 _ 0 (by omega),Nat.zero_add,cF T R1 0 (by omega)]
  have b1:by8 x 1=by8 R1 0:=by
   rw [<-a2,aF _ 0 _ 1 (by omega),be,if_neg (by omega),h1]
  exact (hF.f6 rfl h1 (by omega)).1 x hx h2 b0 b1
 ·rw [qx T R1 x hge,qx T R0 x hge]
theorem n8 (T R0 R1:ByteArray) (k:Nat) (hT:0<T.size) (hb:ag (T++R0) 0=k) (h0:k≠0) (he:ah (T++R0) 0 k=(T.size,0)) (hF:Fol k T R1):ah (T++R1) 0 k=(T.size,0):=by
 have z0:(T++R0).size=T.size+R0.size:=aP _ _;have z1:(T++R1).size=T.size+R1.size:=aP _ _
 have quo:∀q o,q<128->run (bH (T++R0) 0 q o) (T++R0).size (0+1) 0=(T.size,0)->run (bH (T++R1) 0 q o) (T++R1).size (0+1) 0=(T.size,0):=by
  intro q o hq h;refine (fg (cX _ _ _ _) (cX _ _ _ _) (by omega) (fun b m p=>xV _ _ _ _ b m p) ?_ ?_ _ 1 0 (Nat.le_refl _) (by omega) h).2
  ·intro b m hbP hg;unfold bH at hg ⊢
   split at hg
   ·first|exact absurd (Rd.out.inj hg).2 (by decide)|cases hg
   ·rename_i h1
    split at hg
    ·first|exact absurd (Rd.out.inj hg).2 (by decide)|cases hg
    ·rename_i h2
     split at hg
     ·rename_i h3
      injection hg with hp _
      have hbT:b<T.size:=by omega
      have c0:=aM (T++R0) b (by rw [h3.1];exact hq);have e8:=dq T R0 R1 b hbT;have c1:=aM (T++R1) b (by rw [e8,h3.1];exact hq);rw [c0.1] at h2;rw [if_neg (by rw [e8];omega),c1.1,if_neg h2,e8,if_pos h3,hp]
     ·split at hg
      ·first|exact absurd (Rd.out.inj hg).2 (by decide)|cases hg
      ·first|exact absurd (Rd.out.inj hg).2 (by decide)|cases hg
  ·intro b m n hg hbn;unfold bH at hg ⊢
   split at hg
   ·cases hg
   ·rename_i h1
    split at hg
    ·cases hg
    ·rename_i h2
     split at hg
     ·cases hg
     ·rename_i h3
      split at hg
      ·cases hg
      ·rename_i h4
       injection hg with hn
       have hn1:1<=n:=by
        have:=cX (T++R0) 0 q o b m n (by unfold bH;rw [if_neg h1,if_neg h2,if_neg h3,if_neg h4,hn]);exact this.1
       have hbT:b<T.size:=by omega
       have e8:=dq T R0 R1 b hbT;obtain ⟨d1,d2,d3⟩:=j6 T R0 R1 hF.nc b hbT (by rw [hn];exact hbn);have ec:df (T++R1) b=df (T++R0) b:=by unfold df;rw [d1,d2]
       rw [if_neg (by rw [e8];omega),d3,if_neg h2,e8,if_neg h3,ec,if_neg h4,hn]
 have com:∀o,(o=false->0<R1.size->by8 R1 0=10)->run (aV (T++R0) 0 o) (T++R0).size 0 0=(T.size,0)->run (aV (T++R1) 0 o) (T++R1).size 0 0=(T.size,0):=by
  intro o ho h;refine (fg (b8 _ _ _) (b8 _ _ _) (by omega) (fun b m p=>rk _ _ _ b m p) ?_ ?_ _ 0 0 (Nat.le_refl _) (by omega) h).2
  ·intro b m hbP hg;unfold aV at hg ⊢
   by_cases hbT:b=T.size
   ·have ho2:o=false:=by
     cases o with
     |false=>rfl
     |true=>
      exfalso
      split at hg
      ·simp at hg
      ·simp at hg
       split at hg
       ·exact absurd (Rd.out.inj hg).2 (by decide)
       ·split at hg
        ·have:=(Rd.out.inj hg).1;omega
        ·cases hg
    subst ho2;rw [hbT]
    by_cases hR:R1.size=0
    ·rw [if_pos (by omega)];rfl
    ·have e8:by8 (T++R1) T.size=10:=by rw [be,if_neg (Nat.lt_irrefl _),Nat.sub_self];exact ho rfl (by omega)
     rw [if_neg (by omega),if_pos ⟨rfl,e8⟩]
   ·have hbl:b<T.size:=by omega
    have e8:=dq T R0 R1 b hbl;rw [if_neg (by omega)] at hg ⊢;rw [e8];exact hg
  ·intro b m n hg hbn;unfold aV at hg ⊢
   split at hg
   ·split at hg <;> cases hg
   ·split at hg
    ·cases hg
    ·split at hg
     ·cases hg
     ·split at hg
      ·cases hg
      ·rename_i h1 h2 h3 h4
       injection hg with hn
       have e8:=dq T R0 R1 b (by omega);rw [if_neg (by omega),e8,if_neg h2,if_neg h3,if_neg h4,hn]
 have row:(k=1\/k=3)->run (bz (T++R0) 0 k) (T++R0).size 0 0=(T.size,0)->run (bz (T++R1) 0 k) (T++R1).size 0 0=(T.size,0):=by
  intro hk h;refine (fg (bZ _ _ _) (bZ _ _ _) (by omega) (fun b m p=>qo _ _ _ b m p) ?_ ?_ _ 0 0 (Nat.le_refl _) (by omega) h).2
  ·intro b m hbP hg
   have hbT:b=T.size:=by
    unfold bz at hg
    split at hg
    ·injection hg
    ·split at hg
     ·injection hg
     ·split at hg
      ·first|exact absurd (Rd.out.inj hg).2 (by decide)|cases hg
      ·first|exact absurd (Rd.out.inj hg).2 (by decide)|cases hg
   rw [hbT];unfold bz
   by_cases hR:R1.size=0
   ·rw [if_pos (by omega)]
   ·have e8:by8 (T++R1) T.size=by8 R1 0:=by rw [be,if_neg (by omega),Nat.sub_self]
    rw [if_neg (by omega),if_pos ?_]
    rcases hk with rfl|rfl
    ·obtain ⟨f1,f2⟩:=hF.f1 rfl (by omega);obtain ⟨c1,c2,c3⟩:=aM (T++R1) T.size (by rw [e8];exact f1);refine .inl ⟨rfl,?_⟩;rw [c3,c2,e8,f2];rfl
    ·exact .inr ⟨rfl,by rw [e8];exact hF.f3 rfl (by omega)⟩
  ·intro b m n hg hbn;unfold bz at hg ⊢
   split at hg
   ·cases hg
   ·rename_i h1
    split at hg
    ·cases hg
    ·rename_i h2
     split at hg
     ·cases hg
     ·rename_i h3
      injection hg with hn
      have hn1:=(bZ (T++R0) 0 k b m n (by unfold bz;rw [if_neg h1,if_neg h2,if_neg h3,hn])).1;have hbT:b<T.size:=by omega
      have e8:=dq T R0 R1 b hbT;obtain ⟨d1,d2,d3⟩:=j6 T R0 R1 hF.nc b hbT (by rw [hn];exact hbn);rw [if_neg (by omega),d1,d2,e8,if_neg h2,d3,if_neg h3,hn]
 unfold ah at he ⊢
 rcases wO (T++R0) 0 with e|e|e|e|e|e|e|e <;> rw [hb] at e <;> subst e
 ·exact absurd rfl h0
 ·exact row (.inl rfl) he
 ·exact row (.inr rfl) he
 ·exact quo 34 false (by decide) he
 ·exact quo 39 true (by decide) he
 ·have hz:(sg (T++R0) 0).size=T.size:=by
   have:0+(sg (T++R0) 0).size=T.size:=congrArg Prod.fst he;omega
  show (0+(sg (T++R1) 0).size,0)=_
  rw [qm T R0 R1 hT hz hF,hz,Nat.zero_add]
 ·exact com false (fun _ h=>hF.f7 rfl h) he
 ·exact com true (fun e=>by cases e) he
theorem rZ:∀x∈aL,by8 x 0<128:=by decide
theorem uA {g:Nat->Nat->Rd}{m:Nat}(hg:dU g z) (hge:∀b m p,g b m=.out p 0->b<=p) (ha:a<=z) (hP:P<=z) (h:run g z a m=(P,0)):a<=P:=
 (fg hg hg hP hge (fun _ _ _ h=>h) (fun _ _ _ h _=>h) _ a m (Nat.le_refl _) ha h).1
theorem mu (hb:ag s a=k) (h0:k≠0) (h1:k≠1):by8 s a<128/\(gd s a && lt' (dp s a))=false:=by
 unfold ag at hb
 split at hb
 ·exact absurd hb.symm h1
 ·rename_i hl
  refine ⟨?_,by simpa using hl⟩
  split at hb
  ·rename_i h;simp only [bN,Bool.and_eq_true,decide_eq_true_eq] at h;omega
  ·split at hb
   ·omega
   ·split at hb
    ·omega
    ·split at hb
     ·omega
     ·split at hb
      ·omega
      ·split at hb
       ·rename_i h
        obtain ⟨e1,e2,e3⟩:=fU s a h;have h8:=rZ _ e3;rw [<-e2,aF s a _ 0 (by omega),Nat.add_zero] at h8;exact h8
       ·exact absurd hb.symm h0
theorem ou (T R0 R1:ByteArray) (k:Nat) (hT:0<T.size) (hb:ag (T++R0) 0=k) (h0:k≠0) (he:ah (T++R0) 0 k=(T.size,0)) (hF:Fol k T R1):ag (T++R1) 0=k:=by
 have z0:(T++R0).size=T.size+R0.size:=aP _ _;have z1:(T++R1).size=T.size+R1.size:=aP _ _;have e8:=dq T R0 R1 0 hT
 by_cases hk1:k=1
 ·subst hk1
  have hl:(gd (T++R0) 0 && lt' (dp (T++R0) 0))=true:=by
   unfold ag at hb
   split at hb
   ·assumption
   ·repeat' (split at hb)
    all_goals exact absurd hb (by decide)
  have hr:run (bz (T++R0) 0 1) (T++R0).size 0 0=(T.size,0):=he
  have hd:0+dw (T++R0) 0<=T.size:=by
   cases hg:bz (T++R0) 0 1 0 0 with
   |out p e=>
    rw [bG (Nat.zero_le _) hg] at hr;unfold bz at hg;rw [if_neg (by omega)] at hg;rw [Bool.and_eq_true] at hl;have hp:(gd (T++R0) 0 && pr' (dp (T++R0) 0))=true:=by rw [hl.1];unfold pr';rw [hl.2];rfl
    rw [if_neg (by rintro (⟨_,h⟩|⟨h,_⟩);rw [hp] at h;cases h;cases h)] at hg
    split at hg
    ·have h1:=(Rd.out.inj hg).2;have h2:e=0:=congrArg Prod.snd hr;omega
    ·cases hg
   |on n=>
    have hn:n=dw (T++R0) 0:=by
     unfold bz at hg
     repeat' (split at hg)
     all_goals first|(cases hg;done)|(injection hg with hg;exact hg.symm)
    rw [du (bZ _ _ _) (Nat.zero_le _) hg,hn] at hr;have hz:=(bZ (T++R0) 0 1 0 0 n hg).2;exact uA (bZ _ _ _) (fun b m p=>qo _ _ _ b m p) (by omega) (by omega) hr
  obtain ⟨d1,d2,_⟩:=j6 T R0 R1 hF.nc 0 hT hd;unfold ag;rw [if_pos (by rw [d1,d2];exact hl)]
 ·obtain ⟨ha,hnl⟩:=mu hb h0 hk1;obtain ⟨c1,c2,c3⟩:=aM (T++R0) 0 ha;obtain ⟨d1,d2,d3⟩:=aM (T++R1) 0 (by rw [e8];exact ha)
  have hnl1:¬(gd (T++R1) 0 && lt' (dp (T++R1) 0))=true:=by
   have e:(gd (T++R1) 0 && lt' (dp (T++R1) 0))=(gd (T++R0) 0 && lt' (dp (T++R0) 0)):=by rw [d3,d2,c3,c2,e8]
   rw [e,hnl];decide
  have hnl0:¬(gd (T++R0) 0 && lt' (dp (T++R0) 0))=true:=by rw [hnl];decide
  unfold ag at hb ⊢;rw [if_neg hnl0] at hb;rw [if_neg hnl1,e8]
  split at hb
  ·rename_i h;rw [if_pos h];exact hb
  ·rename_i h3
   rw [if_neg h3]
   split at hb
   ·rename_i h;rw [if_pos h];exact hb
   ·rename_i h4
    rw [if_neg h4]
    split at hb
    ·rename_i h;rw [if_pos h];exact hb
    ·rename_i h5
     rw [if_neg h5]
     split at hb
     ·rename_i h7
      subst hb;have hr:run (aV (T++R0) 0 false) (T++R0).size 0 0=(T.size,0):=he
      have g0:aV (T++R0) 0 false 0 0=.on 1:=by
       unfold aV;rw [if_neg (by omega),if_neg (by omega),if_neg (by omega),if_neg (by simp)]
      have g1:aV (T++R0) 0 false 1 1=.on 1:=by
       unfold aV;rw [if_neg (by omega),if_neg (by rw [show (0:Nat)+1=1 from rfl] at h7;omega),if_neg (by omega),if_neg (by simp)]
      rw [du (b8 _ _ _) (Nat.zero_le _) g0,du (b8 _ _ _) (by omega) g1] at hr;have hT2:=uA (b8 _ _ _) (fun b m p=>rk _ _ _ b m p) (by omega) (by omega) hr;rw [if_pos ⟨h7.1,by omega,by rw [dq T R0 R1 (0+1) (by omega)];exact h7.2.2⟩]
     ·rename_i h7
      have h7':¬(by8 (T++R0) 0=47/\0+1<(T++R1).size/\by8 (T++R1) (0+1)=47)\/k≠6:=by
       by_cases hk6:k=6
       ·refine .inl (fun ⟨x1,x2,x3⟩=>?_)
        by_cases hT2:1<T.size
        ·rw [dq T R0 R1 (0+1) (by omega)] at x3;exact h7 ⟨x1,by omega,x3⟩
        ·have hT1:T.size=1:=by omega
         rw [be,if_neg (by omega),hT1] at x3;rw [cF T R0 0 hT] at x1;exact (hF.f6 hk6 hT1 (by omega)).2 ⟨x1,x3⟩
       ·exact .inr hk6
      split at hb
      ·rename_i h;rw [if_neg (by omega),if_pos h];exact hb
      ·rename_i h123
       split at hb
       ·rename_i hs
        subst hb
        have hz:(sg (T++R0) 0).size=T.size:=by
         have:0+(sg (T++R0) 0).size=T.size:=congrArg Prod.fst he;omega
        rw [if_neg (h7'.resolve_right (fun h=>h rfl)),if_neg h123,qm T R0 R1 hT hz hF,if_pos hs]
       ·exact absurd hb.symm h0
structure Tx (k:Nat) (T:ByteArray):Prop where
 pos:0<T.size
 k0:k≠0
 bg:ag (T++lfB) 0=k
 en:ah (T++lfB) 0 k=(T.size,0)
 bl:k=7->bV (by8 T (T.size-1))=false
theorem lf1:lfB.size=1:=rfl
theorem eL:pr' (10:Nat)=false/\pr' (32:Nat)=false/\lt' (10:Nat)=false/\lt' (32:Nat)=false/\lt' (9:Nat)=false/\lt' (13:Nat)=false:=by decide
theorem v7 (k:Nat) (T:ByteArray):Fol k T lfB:=by
 refine ⟨rfl,fun _ _=>⟨by decide,eL.1⟩,fun _ _=>rfl,fun _ h1 _=>⟨fun x hx h2 _ h3=>?_,fun h=>?_⟩,fun _ _=>rfl⟩
 ·rcases uw x hx with h|h
  ·omega
  ·exact h.2 h3
 ·exact absurd h.2 (by decide)
def okE (c:Nat):Prop:=c≠32/\c≠10
theorem kx:∀x∈aL,(by8 x 0≠32/\by8 x 0≠10/\by8 x 0≠9/\by8 x 0≠13)/\by8 x (x.size-1)≠32/\by8 x (x.size-1)≠10:=by decide
theorem mq (h:by8 s a=10\/bV (by8 s a)=true):ag s a=0:=by
 have hc:by8 s a=10\/by8 s a=32\/by8 s a=9\/by8 s a=13:=by
  rcases h with h|h
  ·exact .inl h
  ·unfold bV at h;simp only [Bool.or_eq_true,beq_iff_eq] at h;omega
 obtain ⟨c1,c2,c3⟩:=aM s a (by omega)
 have hl:lt' (dp s a:Nat)=false:=by
  rw [c2]
  rcases hc with e|e|e|e <;> rw [e]
  ·exact eL.2.2.1
  ·exact eL.2.2.2.1
  ·exact eL.2.2.2.2.1
  ·exact eL.2.2.2.2.2
 unfold ag;rw [if_neg (by rw [hl,Bool.and_false];decide),if_neg (by unfold bN;rcases hc with e|e|e|e <;> rw [e] <;> decide),if_neg (by omega),if_neg (by omega),if_neg (by omega),if_neg (by omega),if_neg ?_];intro hz;obtain ⟨e1,e2,e3⟩:=fU s a hz;have h8:=(kx _ e3).1;rw [<-e2,aF s a _ 0 (by omega),Nat.add_zero] at h8;omega
theorem wH (s:ByteArray) (b:Nat) (h1:1<=dw s b) (hb:b<s.size) (h:by8 s (b+dw s b-1)<128):dw s b=1:=by
 apply Classical.byContradiction;intro hne
 have:=(fN s b (dw s b-1) (by omega) (by omega)).2;rw [show b+(dw s b-1)=b+dw s b-1 by omega] at this;omega
theorem pJ (s:ByteArray) (f:Nat) (hf:f<=s.size) (p:Nat) (h:run (aV s f false) s.size f 0=(p,0)):p<=f+65535/\(∀i,f<=i->i<p->by8 s i≠10)/\(s.size<=p\/by8 s p=10):=by
 have:=bX (b8 s f false) (fun b _=>f<=b/\b<=f+65535/\∀i,f<=i->i<b->by8 s i≠10) (fun r=>r.2=0->r.1<=f+65535/\(∀i,f<=i->i<r.1->by8 s i≠10)/\(s.size<=r.1\/by8 s r.1=10)) ?_ ?_ _ f 0 (Nat.le_refl _) hf ⟨Nat.le_refl _,by omega,fun i h1 h2=>by omega⟩
 ·rw [h] at this;exact this rfl
 ·intro a m p e ha hI hg he;have he':e=0:=he;subst he';unfold aV at hg
  split at hg
  ·simp at hg;subst hg;exact ⟨hI.2.1,hI.2.2,.inl (by assumption)⟩
  ·split at hg
   ·rename_i h1 h2;injection hg with hp _;subst hp;exact ⟨hI.2.1,hI.2.2,.inr h2.2⟩
   ·split at hg
    ·exact absurd (Rd.out.inj hg).2 (by decide)
    ·simp at hg
 ·intro a m n ha hI hg;unfold aV at hg
  split at hg
  ·simp at hg
  ·split at hg
   ·cases hg
   ·split at hg
    ·cases hg
    ·split at hg
     ·cases hg
     ·rename_i h1 h2 h3 h4
      injection hg with hn
      subst hn;refine ⟨by omega,by omega,fun i hi hi2=>?_⟩
      by_cases e:i=a
      ·subst e;exact fun h=>h2 ⟨rfl,h⟩
      ·exact hI.2.2 i hi (by omega)
theorem xk {T:ByteArray}(h:Tx k T):okE (by8 T 0)/\okE (by8 T (T.size-1))/\T.size<=65535:=by
 have hT:=h.pos;have hz:(T++lfB).size=T.size+1:=by rw [aP,lf1]
 have e8:∀i,i<T.size->by8 (T++lfB) i=by8 T i:=fun i hi=>cF T lfB i hi
 have h0:okE (by8 T 0):=by
  refine ⟨fun e=>?_,fun e=>?_⟩
  ·exact h.k0 (by rw [<-h.bg];exact mq (.inr (by rw [e8 0 hT,e];rfl)))
  ·exact h.k0 (by rw [<-h.bg];exact mq (.inl (by rw [e8 0 hT,e])))
 refine ⟨h0,?_⟩
 have row:∀k,(k=1\/k=3)->run (bz (T++lfB) 0 k) (T++lfB).size 0 0=(T.size,0)->okE (by8 T (T.size-1))/\T.size<=65535:=by
  intro k hk hr;have:=bX (bZ (T++lfB) 0 k) (fun b _=>b=0\/(okE (by8 (T++lfB) (b-1))/\b<=65535)) (fun r=>r.2=0->r.1=0\/(okE (by8 (T++lfB) (r.1-1))/\r.1<=65535)) ?_ ?_ _ 0 0 (Nat.le_refl _) (Nat.zero_le _) (.inl rfl)
  ·rw [hr] at this
   rcases this rfl with h1|h1
   ·have h1':T.size=0:=h1;omega
   ·have h1':okE (by8 (T++lfB) (T.size-1))/\T.size<=65535:=h1;rw [e8 _ (by omega)] at h1';exact h1'
  ·intro a m p e ha hI hg he;have he':e=0:=he;subst he';unfold bz at hg
   split at hg
   ·injection hg with hp _;subst hp;exact hI
   ·split at hg
    ·injection hg with hp _;subst hp;exact hI
    ·split at hg
     ·exact absurd (Rd.out.inj hg).2 (by decide)
     ·cases hg
  ·intro a m n ha hI hg;have hn1:=(bZ (T++lfB) 0 k a m n hg).1;unfold bz at hg
   split at hg
   ·cases hg
   ·rename_i h1
    split at hg
    ·cases hg
    ·rename_i h2
     split at hg
     ·cases hg
     ·rename_i h3
      injection hg with hn
      subst hn;refine .inr ⟨?_,by omega⟩
      have key:∀c,c<128->by8 (T++lfB) (a+dw (T++lfB) a-1)=c->by8 (T++lfB) a=c:=by
       intro c hc e;have:=wH (T++lfB) a hn1 (by omega) (by omega);rw [this,Nat.add_sub_cancel] at e;exact e
      have no:∀c,c<128->pr' (c:Nat)=false->bN c=false->by8 (T++lfB) a≠c:=by
       intro c hc hp hd e
       apply h2
       rcases hk with rfl|rfl
       ·refine .inl ⟨rfl,?_⟩;rw [(aM (T++lfB) a (by omega)).2.1,e,hp,Bool.and_false]
       ·exact .inr ⟨rfl,by rw [e];exact hd⟩
      exact ⟨fun e=>no 32 (by decide) eL.2.1 rfl (key 32 (by decide) e),fun e=>no 10 (by decide) eL.1 rfl (key 10 (by decide) e)⟩
 have quo:∀q o,(q=34\/q=39)->run (bH (T++lfB) 0 q o) (T++lfB).size (0+1) 0=(T.size,0)->okE (by8 T (T.size-1))/\T.size<=65535:=by
  intro q o hq hr;have:=bX (cX (T++lfB) 0 q o) (fun b _=>True) (fun r=>r.2=0->by8 (T++lfB) (r.1-1)=q/\r.1<=65535) ?_ ?_ _ 1 0 (Nat.le_refl _) (by omega) trivial
  ·rw [hr] at this;obtain ⟨x1,x2⟩:=this rfl;have x1':by8 (T++lfB) (T.size-1)=q:=x1;rw [e8 _ (by omega)] at x1';exact ⟨⟨by omega,by omega⟩,x2⟩
  ·intro a m p e ha hI hg he;have he':e=0:=he;subst he';unfold bH at hg
   split at hg
   ·exact absurd (Rd.out.inj hg).2 (by decide)
   ·split at hg
    ·exact absurd (Rd.out.inj hg).2 (by decide)
    ·rename_i h1 h2
     split at hg
     ·rename_i h3
      injection hg with hp _
      subst hp;have:=(aM (T++lfB) a (by omega)).1;exact ⟨by rw [Nat.add_sub_cancel];exact h3.1,by show a+1<=65535;omega⟩
     ·split at hg
      ·exact absurd (Rd.out.inj hg).2 (by decide)
      ·cases hg
  ·intro a m n ha hI hg;trivial
 have blk:run (aV (T++lfB) 0 true) (T++lfB).size 0 0=(T.size,0)->okE (by8 T (T.size-1))/\T.size<=65535:=by
  intro hr;have:=bX (b8 (T++lfB) 0 true) (fun b _=>True) (fun r=>r.2=0->by8 (T++lfB) (r.1-1)=125/\r.1<=65535) ?_ ?_ _ 0 0 (Nat.le_refl _) (Nat.zero_le _) trivial
  ·rw [hr] at this;obtain ⟨x1,x2⟩:=this rfl;have x1':by8 (T++lfB) (T.size-1)=125:=x1;rw [e8 _ (by omega)] at x1';exact ⟨⟨by omega,by omega⟩,x2⟩
  ·intro a m p e ha hI hg he;have he':e=0:=he;subst he';unfold aV at hg
   split at hg
   ·simp at hg
   ·split at hg
    ·rename_i h;cases h.1
    ·split at hg
     ·exact absurd (Rd.out.inj hg).2 (by decide)
     ·split at hg
      ·rename_i h3 h4
       injection hg with hp _
       subst hp;exact ⟨by rw [Nat.add_sub_cancel];exact h4.2,by show a+1<=65535;omega⟩
      ·cases hg
  ·intro a m n ha hI hg;trivial
 have he:=h.en;have hb:=h.bg;have hk0:=h.k0;have hbl:=h.bl;unfold ah at he
 rcases wO (T++lfB) 0 with e|e|e|e|e|e|e|e <;> rw [hb] at e <;> subst e
 ·exact absurd rfl hk0
 ·exact row 1 (.inl rfl) he
 ·exact row 3 (.inr rfl) he
 ·exact quo 34 false (.inl rfl) he
 ·exact quo 39 true (.inr rfl) he
 ·have hz6:(sg (T++lfB) 0).size=T.size:=by
   have:0+(sg (T++lfB) 0).size=T.size:=congrArg Prod.fst he;omega
  obtain ⟨_,x2,x3⟩:=fU (T++lfB) 0 (by omega);rw [hz6,Nat.zero_add,gH] at x2;rw [<-x2] at x3;have h2:=At (T++lfB) 0;exact ⟨(kx T x3).2,by omega⟩
 ·have hr:run (aV (T++lfB) 0 false) (T++lfB).size 0 0=(T.size,0):=he;obtain ⟨y1,y2,_⟩:=pJ _ 0 (Nat.zero_le _) _ hr;have h10:=y2 (T.size-1) (Nat.zero_le _) (by omega);rw [e8 _ (by omega)] at h10;have hb7:=hbl rfl;refine ⟨⟨fun e=>?_,h10⟩,by omega⟩;rw [e] at hb7;cases hb7
 ·exact blk he
theorem cut3 (s:ByteArray) (a p:Nat) (ha:a<=p) (hp:p<=s.size):s=s.extract 0 a++(s.extract a p++s.extract p s.size):=by
 have z1:=aj s 0 a (by omega);have z2:=aj s a p hp;have z3:=aj s p s.size (Nat.le_refl _);refine cZ _ _ (by rw [aP,aP];omega) (fun i hi=>?_);rw [be,be]
 split
 ·rw [aF s 0 a i (by omega),Nat.zero_add]
 ·split
  ·rw [aF s a p _ (by omega)];congr 1;omega
  ·rw [aF s p s.size _ (by omega)];congr 1;omega
theorem As (s:ByteArray) (a k p:Nat) (ha:a<s.size) (hb:ag s a=k) (h0:k≠0) (he:ah s a k=(p,0)):Tx k (s.extract a (if k=7 then aI s p else p)):=by
 obtain ⟨hap,hp⟩:=cG s a k p ha hb h0 he;have zA:=aj s 0 a (by omega);have zT:=aj s a p hp;have hs:=cut3 s a p (by omega) hp;obtain ⟨A,hA⟩:∃A,s.extract 0 a=A:=⟨_,rfl⟩;obtain ⟨T,hT⟩:∃T,s.extract a p=T:=⟨_,rfl⟩;obtain ⟨R,hR⟩:∃R,s.extract p s.size=R:=⟨_,rfl⟩;rw [hA,hT,hR] at hs;rw [hA] at zA;rw [hT] at zT
 have hb2:ag (T++R) 0=k:=by
  rw [<-j8 A (T++R) 0,<-hs,Nat.add_zero,zA,Nat.sub_zero];exact hb
 have he2:ah (T++R) 0 k=(T.size,0):=by
  have:=jZ A (T++R) 0 k (by rw [aP];omega);rw [<-hs,Nat.add_zero,zA,Nat.sub_zero,he] at this;have h1:p=a+(ah (T++R) 0 k).1:=congrArg Prod.fst this;have h2:0=(ah (T++R) 0 k).2:=congrArg Prod.snd this;exact Prod.ext (by show _=T.size;omega) h2.symm
 have hTp:0<T.size:=by omega
 by_cases hk:k=7
 ·rw [if_pos hk];subst hk;have hr:run (aV s a false) s.size a 0=(p,0):=he;obtain ⟨y1,y2,y3⟩:=pJ s a (by omega) p hr
  have h47:by8 s a=47/\a+1<s.size/\by8 s (a+1)=47:=by
   unfold ag at hb
   split at hb
   ·exact absurd hb (by decide)
   ·split at hb
    ·exact absurd hb (by decide)
    ·split at hb
     ·exact absurd hb (by decide)
     ·split at hb
      ·exact absurd hb (by decide)
      ·split at hb
       ·assumption
       ·split at hb
        ·exact absurd hb (by decide)
        ·split at hb
         ·exact absurd hb (by decide)
         ·exact absurd hb (by decide)
  have hp2:a+1<p:=by
   apply Classical.byContradiction;intro hn
   have e:p=a+1:=by omega
   rcases y3 with h|h
   ·omega
   ·rw [e] at h;omega
  have ht2:=fD s (a+1) (by rw [h47.2.2];rfl) p hp2;have htl:=dJ s p;obtain ⟨q,hq⟩:∃q,aI s p=q:=⟨_,rfl⟩;rw [hq] at ht2 htl ⊢;have zU:=aj s a q (by omega);obtain ⟨U,hU⟩:∃U,s.extract a q=U:=⟨_,rfl⟩;have e8:∀i,i<U.size->by8 U i=by8 s (a+i):=fun i hi=>by rw [<-hU,aF s a q i (by rw [hU] at zU;omega)]
  rw [hU] at zU ⊢;have zL:(U++lfB).size=U.size+1:=by rw [aP,lf1]
  have f8:∀i,i<U.size->by8 (U++lfB) i=by8 U i:=fun i hi=>cF U lfB i hi
  have hrun:∀d b m,U.size-b<=d->b<=U.size->run (aV (U++lfB) 0 false) (U++lfB).size b m=(U.size,0):=by
   intro d
   induction d with
   |zero=>
    intro b m hd hbU;obtain rfl:b=U.size:=by omega
    refine bG (by omega) ?_;unfold aV;rw [if_neg (by omega),if_pos ⟨rfl,by rw [be,if_neg (by omega),Nat.sub_self];rfl⟩]
   |succ d ih=>
    intro b m hd hbU
    by_cases hbe:b=U.size
    ·subst hbe;refine bG (by omega) ?_;unfold aV;rw [if_neg (by omega),if_pos ⟨rfl,by rw [be,if_neg (by omega),Nat.sub_self];rfl⟩]
    ·have hg:aV (U++lfB) 0 false b m=.on 1:=by
      unfold aV;rw [if_neg (by omega),if_neg (by rw [f8 b (by omega),e8 b (by omega)];exact fun h=>y2 (a+b) (by omega) (by omega) h.2),if_neg (by omega),if_neg (by simp)]
     rw [du (b8 _ _ _) (by omega) hg];exact ih (b+1) (m+1) (by omega) (by omega)
  refine ⟨by omega,by decide,?_,hrun _ 0 0 (Nat.le_refl _) (Nat.zero_le _),fun _=>?_⟩
  ·have b0:by8 (U++lfB) 0=47:=by rw [f8 0 (by omega),e8 0 (by omega)];exact h47.1
   have b1:by8 (U++lfB) (0+1)=47:=by rw [f8 1 (by omega),e8 1 (by omega)];exact h47.2.2
   obtain ⟨c1,c2,c3⟩:=aM (U++lfB) 0 (by omega);unfold ag;rw [if_neg (by rw [c2,b0,show lt' (47:Nat)=false by decide,Bool.and_false];decide),b0,if_neg (by decide),if_neg (by decide),if_neg (by decide),if_pos ⟨rfl,by omega,b1⟩]
  ·rw [e8 _ (by omega),show a+(U.size-1)=q-1 by omega]
   have:∀p,0<aI s p->bV (by8 s (aI s p-1))=false:=by
    intro p
    induction p with
    |zero=>intro h;exact absurd (show 0<0 from h) (by decide)
    |succ p ih=>
     unfold aI
     split
     ·exact ih
     ·rename_i h;intro _;simpa using h
   rw [<-hq];exact this p (by omega)
 ·rw [if_neg hk,hT];exact ⟨hTp,h0,ou T R lfB k hTp hb2 h0 he2 (v7 k T),n8 T R lfB k hTp hb2 h0 he2 (v7 k T),fun h=>absurd h hk⟩
def kOf (k:Nat) (T:ByteArray):Nat:=if k=1/\ky T=true then 2 else k
theorem jS (s:ByteArray):∀(d a f:Nat),s.size-a<=d->(fnd s a f).2.1=0->(∀t∈(fnd s a f).1,∃k,Tx k (s.extract t.a t.e)/\t.k=kOf k (s.extract t.a t.e))/\(∀t,(fnd s a f).1[0]?=some t->f<=t.f)/\∀(i:Nat) t u,(fnd s a f).1[i]?=some t->(fnd s a f).1[i+1]?=some u->t.k=7->1<=u.f
 |d,a,f,hd,h0=>by
  by_cases ha:s.size<=a
  ·rw [cL s a f ha];exact ⟨fun t ht=>by simp at ht,fun t ht=>by simp at ht,fun i t u ht=>by simp at ht⟩
  ·rw [bF s a f (by omega)] at h0 ⊢;cases d with
   |zero=>omega
   |succ d=>
   split at h0
   ·rename_i h1
    rw [if_pos h1];obtain ⟨x1,x2,x3⟩:=jS s d (a+1) (f+1) (by omega) h0;exact ⟨x1,fun t ht=>by have:=x2 t ht;omega,x3⟩
   ·rename_i h1
    rw [if_neg h1]
    split at h0
    ·rename_i h2
     rw [if_pos h2];exact jS s d (a+1) f (by omega) h0
    ·rename_i h2
     rw [if_neg h2]
     split at h0
     ·exact absurd (show (100:Nat)=0 from h0) (by decide)
     ·rename_i h3
      rw [if_neg h3]
      split at h0
      ·rename_i h4;exact absurd h0 h4
      ·rename_i h4
       rw [if_neg h4];have he:ah s a (ag s a)=((ah s a (ag s a)).1,0):=Prod.ext rfl (by simpa using h4);obtain ⟨hap,hp⟩:=cG s a _ _ (by omega) rfl h3 he;have htx:=As s a _ _ (by omega) rfl h3 he;obtain ⟨p,hpp⟩:∃p,(ah s a (ag s a)).1=p:=⟨_,rfl⟩;rw [hpp] at he hap hp htx h0 ⊢;obtain ⟨x1,x2,x3⟩:=jS s d p 0 (by omega) h0
       have hkk:(bI s (ag s a) a p f).k=kOf (ag s a) (s.extract a (if ag s a=7 then aI s p else p)):=by
        show (if ag s a=1/\ky (s.extract a p)=true then 2 else ag s a)=_
        unfold kOf
        by_cases e7:ag s a=7
        ·rw [e7];rfl
        ·rw [if_neg e7]
       refine ⟨?_,fun t ht=>?_,?_⟩
       ·intro t ht
        rcases List.mem_cons.1 ht with rfl|ht
        ·exact ⟨ag s a,htx,hkk⟩
        ·exact x1 t ht
       ·simp at ht;subst ht;exact Nat.le_refl _
       ·intro i t u ht hu hk;cases i with
        |succ i=>exact x3 i t u ht hu hk
        |zero=>
         simp at ht;subst ht
         have h7:ag s a=7:=by
          rw [hkk] at hk
          generalize s.extract a (if ag s a=7 then aI s p else p)=X at hk
          unfold kOf at hk
          split at hk
          ·exact absurd hk (by decide)
          ·exact hk
         have hr:run (aV s a false) s.size a 0=(p,0):=by rw [h7] at he;exact he
         obtain ⟨_,_,y3⟩:=pJ s a (by omega) p hr;have hu':(fnd s p 0).1[0]?=some u:=hu
         rcases y3 with y3|y3
         ·rw [cL s p 0 y3] at hu';simp at hu'
         ·by_cases hps:s.size<=p
          ·rw [cL s p 0 hps] at hu';simp at hu'
          ·rw [bF s p 0 (by omega),if_pos y3] at hu' h0;have:=(jS s d (p+1) 1 (by omega) h0).2.1 u hu';omega
termination_by d=>d
def tv (s:ByteArray) (t:Tk):Tv:=⟨t.k,s.extract t.a t.e,t.a,pL s t.a,pC s t.a,t.f⟩
def AV (w:World) (s:ByteArray) (e:Ending) (w':World):Prop:=
 (∃v,e=.returned (.tuple #[v,.int .i64 (scn s).2.1,.agg #[.int .i64 (if (scn s).2.1=0 then 0 else (scn s).2.2),.int .i64 (if (scn s).2.1=0 then 0 else pL s (scn s).2.2),.int .i64 (if (scn s).2.1=0 then 0 else pC s (scn s).2.2)]])/\Rt w.heap.size w' v ((scn s).1.map (tv s)))/\Below w.heap.size w w'
def rep (c:UInt8) (n:Nat):ByteArray:=⟨(List.replicate n c).toArray⟩
theorem ce (c:UInt8) (n:Nat):(rep c n).size=n:=by show (List.replicate n c).toArray.size=n;simp
theorem gx (c:UInt8) (n i:Nat) (h:i<n):by8 (rep c n) i=c.toNat:=by
 have h':i<(List.replicate n c).toArray.size:=by simpa using h
 unfold by8;show ((List.replicate n c).toArray[i]!).toNat=_;rw [getElem!_pos _ i h'];simp
theorem jT (s:ByteArray):∀(n i f:Nat),i+n<=s.size->(∀j,i<=j->j<i+n->by8 s j=10)->fnd s i f=fnd s (i+n) (f+n)
 |0,i,f,_,_=>rfl
 |n+1,i,f,h,hb=>by
  rw [bF s i f (by omega),if_pos (hb i (Nat.le_refl _) (by omega)),jT s n (i+1) (f+1) (by omega) (fun j h1 h2=>hb j (by omega) (by omega)),show i+1+n=i+(n+1) by omega,show f+1+n=f+(n+1) by omega]
theorem jU (s:ByteArray):∀(n i f:Nat),i+n<=s.size->(∀j,i<=j->j<i+n->by8 s j=32)->fnd s i f=fnd s (i+n) f
 |0,i,f,_,_=>rfl
 |n+1,i,f,h,hb=>by
  have h1:=hb i (Nat.le_refl _) (by omega);rw [bF s i f (by omega),if_neg (by omega),if_pos (by rw [h1];rfl),jU s n (i+1) f (by omega) (fun j h1 h2=>hb j (by omega) (by omega)),show i+1+n=i+(n+1) by omega]
def vw (s:ByteArray) (t:Tk):Nat × ByteArray × Nat:=(t.k,s.extract t.a t.e,t.f)
def Rds (s:ByteArray) (f:Nat) (l:List (Nat × ByteArray × Nat)):Prop:=(fnd s 0 f).2.1=0/\(fnd s 0 f).1.map (vw s)=l
theorem zF (a c:ByteArray) (f:Nat):((fnd c 0 f).1.map (Tk.up a.size)).map (vw (a++c))=(fnd c 0 f).1.map (vw c):=by
 rw [List.map_map];refine List.map_congr_left (fun t ht=>?_);have:=fx c _ 0 f (Nat.le_refl _) t ht;show (t.k,(a++c).extract (a.size+t.a) (a.size+t.e),t.f)=_;rw [jW a c t.a t.e this.2.2];rfl
theorem xS {R:ByteArray}{f b:Nat}{l:List (Nat × ByteArray × Nat)}(h:Rds R (f+a) l):Rds (rep 10 a++(rep 32 b++R)) f l:=by
 have z1:=ce 10 a;have z2:=ce 32 b;obtain ⟨X,hX⟩:∃X,rep 10 a++rep 32 b=X:=⟨_,rfl⟩;have zX:X.size=a+b:=by rw [<-hX,aP,z1,z2]
 have e:rep 10 a++(rep 32 b++R)=X++R:=by rw [<-hX,ByteArray.append_assoc]
 have z:(X++R).size=a+b+R.size:=by rw [aP,zX]
 have e8:∀i,i<a+b->by8 (X++R) i=if i<a then 10 else 32:=by
  intro i hi;rw [be,if_pos (by omega),<-hX,be,z1]
  split
  ·rw [gx _ _ _ (by assumption)];rfl
  ·rw [gx _ _ _ (by omega)];rfl
 rw [e];unfold Rds;rw [jT (X++R) a 0 f (by omega) (fun j h1 h2=>by rw [e8 j (by omega),if_pos (by omega)]),jU (X++R) b (0+a) (f+a) (by omega) (fun j h1 h2=>by rw [e8 j (by omega),if_neg (by omega)])];have h2:=dP X R _ 0 (f+a) (Nat.le_refl _);rw [show 0+a+b=X.size+0 by omega,h2];exact ⟨h.1,by rw [zF];exact h.2⟩
theorem qq {k:Nat}{T R:ByteArray}{f:Nat}{l:List (Nat × ByteArray × Nat)}(hT:Tx k T) (hF:Fol k T R) (h:Rds R 0 l):Rds (T++R) f ((kOf k T,T,f) :: l):=by
 have hp:=hT.pos;have z:(T++R).size=T.size+R.size:=aP _ _;have hb:=ou T lfB R k hp hT.bg hT.k0 hT.en hF;have he:=n8 T lfB R k hp hT.bg hT.k0 hT.en hF;have h10:¬by8 (T++R) 0=10:=fun e=>hT.k0 (by rw [<-hb];exact mq (.inl e))
 have hbl:¬bV (by8 (T++R) 0)=true:=fun e=>hT.k0 (by rw [<-hb];exact mq (.inr e))
 have h2:=dP T R _ 0 0 (Nat.le_refl _);rw [Nat.add_zero] at h2
 have hend:(if k=7 then aI (T++R) T.size else T.size)=T.size:=by
  split
  ·rename_i h7
   have:=hT.bl h7;obtain ⟨q,hq⟩:∃q,T.size=q+1:=⟨T.size-1,by omega⟩;rw [hq];unfold aI;rw [if_neg];rw [cF T R q (by omega)];rw [hq,Nat.add_sub_cancel] at this;rw [this];decide
  ·rfl
 unfold Rds;rw [bF (T++R) 0 f (by omega),if_neg h10,if_neg hbl,if_neg (by rw [hb];exact hT.k0),hb,he,if_neg (by simp)];show (fnd (T++R) T.size 0).2.1=0/\vw (T++R) (bI (T++R) k 0 T.size f) :: (fnd (T++R) T.size 0).1.map (vw (T++R))=_;rw [h2];refine ⟨h.1,?_⟩;show _ :: ((fnd R 0 0).1.map (Tk.up T.size)).map (vw (T++R))=_;rw [zF,h.2]
 congr 1
 show ((if k=1/\ky ((T++R).extract 0 T.size)=true then 2 else k),(T++R).extract 0 (if k=7 then aI (T++R) T.size else T.size),f)=_
 rw [hend,gH];rfl
theorem xT (e f:Nat):Rds (rep 10 e) f []:=by
 have z:=ce 10 e;unfold Rds;rw [jT (rep 10 e) e 0 f (by omega) (fun j _ h2=>by rw [gx _ _ _ (by omega)];rfl),cL _ _ _ (by omega)];exact ⟨rfl,rfl⟩
end Go.Proofs.YtpdlohfdjiaegaaGreatDoor.Lx
