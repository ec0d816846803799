import Derived.Test.YtcjiapphbpiffaaGreatDoorM17
set_option linter.unusedVariables false
set_option linter.unusedSimpArgs false
namespace Go.Proofs.YtcjiapphbpiffaaGreatDoor
open Go.RowKit
variable {r K':List It}{n code q:Int}{k:Nat}{E o:List Ev}{i:It}{L:List Tv}{d d':D}{m:M}{ts:List ByteArray}
theorem jr {t:Tv}(C:It.step t i=.ref) {k:Nat}{K:List It}{n:Int}{E:List Ev}{R:Ro}(h:Ru t k (i :: K) n E R):R=.no:=by
 cases h with
 |ref _=>rfl
 |tk h=>rw [C] at h;cases h
 |go h _=>rw [C] at h;cases h
theorem nC {t:Tv}(h:Fl.takes t (.wd q ts)=false):It.step t (.fl (.wd q ts))=.ref:=by
 simp [It.step,Fl.step,h]
theorem EM {t:Tv}{d:Int}(C:It.step t i=.go d o (.fl (.wd q ts) :: r)) (F:(t.k == q)=false) {k:Nat}{K:List It}{n:Int}{E:List Ev}{R:Ro}(h:Ru t k (i :: K) n E R):R=.no:=by
 cases h with
 |ref _=>rfl
 |tk h=>rw [C] at h;cases h
 |go h hr=>
  rw [C] at h;cases h;exact jr (nC (by simp [Fl.takes,F])) hr
theorem vC {t:Tv}{k:Dk}(C:k.pick t=some m) (F:(t.k == k.kd)=false) {j:Nat}{K:List It}{n:Int}{E:List Ev}{R:Ro}(h:Ru t j (.fl (.mt m) :: K) n E R):R=.no:=by
 cases k <;> simp only [Dk.pick] at C <;> simp only [Dk.kd] at F
 all_goals (repeat' (split at C))
 all_goals first
  | (cases C;done)
  | (cases C;exact EM rfl F h)
theorem jv (C:d.e=0):eI n d=lU d [⟨1,n,aB⟩]:=by
 unfold eI;rw [IO C];rfl
theorem Bj {n:Int}{d:D}(C:d.e=0):nr n d=lU d [⟨3,n,aB⟩]:=by
 unfold nr;rw [IO C];rfl
theorem wZ {t:Tv}(C:m≠.kind) (F:m≠.statement):cR (some t) m=M.row t m:=by
 cases m <;> first|rfl|exact absurd rfl C|exact absurd rfl F
theorem mH (s:ByteArray):co s=.ref\/∃nd r,co s=.op nd (.fl (.wd 2 [s]) :: r):=by
 unfold co
 repeat' split
 all_goals first
  |exact .inl rfl
  |exact .inr ⟨_,_,rfl⟩
theorem gY {t:Tv}(G:cZ L d=some t) {m:M}{dn:Int}{o:List Ev}{r:List It}(C:It.step t (.fl (.mt m))=.go dn o r) (H:cR (some t) m=M.row t m):dst L (.fl (.mt m)) d=(r,lU d o):=by
 have I:=(eU G).1;simp only [dst,G,H];simp only [It.step,Fl.step] at C;cases F:M.row t m with
 |ref=>rw [F] at C;cases C
 |ex r'=>rw [F] at C;cases C;simp only [iK]
 |op nd r'=>rw [F] at C;cases C;simp only [jv I]
theorem rC {t:Tv}{p:Pk}:bw (some t) p=Pk.pick t p\/∃k m,p=.fn k/\k.pick t=some m/\(t.k == k.kd)=false/\bw (some t) p=none:=by
 cases p with
 |fn k=>
  simp only [bw,Pk.pick]
  by_cases h:(t.k == k.kd)=true
  ·exact .inl (IO h)
  ·have C:(t.k == k.kd)=false:=by simpa using h
   rw [Eq h];cases F:k.pick t with
   |none=>exact .inl rfl
   |some m=>exact .inr ⟨k,m,rfl,F,C,rfl⟩
 |row r=>exact .inl rfl
 |ex m=>exact .inl rfl
theorem Ie {t:Tv}{k:Dk}(C:k.pick t=some m) (I:(t.k == k.kd)=false):bad k t:=by
 refine ⟨I,fun e=>?_⟩;subst e;simp only [Dk.pick] at C;cases F:t.is [91] with
 |true=>rfl
 |false=>
  cases G:t.is [46] with
  |true=>rfl
  |false=>
   cases H:t.is [40] with
   |true=>rfl
   |false=>rw [F,G,H] at C;cases C
theorem Es {t:Tv}(G:cZ L d=some t) {i:It}{dn:Int}{o:List Ev}{r:List It}(C:It.step t i=.go dn o r) :
  dst L i d=(r,lU d o)\/((∀k K n E R,Ru t k (r++K) n E R->R=.no)/\(∀K,nw (i :: K)=true->km L (i :: K) d)):=by
 have Z:=(eU G).1;cases i with
 |fl x=>
  cases x with
  |mt m=>
   by_cases h1:m=.kind
   ·subst h1
    by_cases k1:(t.k == 1)=true
    ·refine .inl (gY G C ?_);have O:t.k=1:=by simpa using k1
     simp [cR,M.row,wk,O]
    ·have F:(t.k == 1)=false:=by simpa using k1
     by_cases U:(t.k == 2)=true
     ·have a1:wk 2 ⟨#[97,114,114,97,121]⟩ t=t.is [97,114,114,97,121]:=by rw [qV,U,show (ByteArray.mk #[97,114,114,97,121]).toList=[97,114,114,97,121] by decide +kernel];rfl
      have a2:wk 2 ⟨#[114,101,99,111,114,100]⟩ t=t.is [114,101,99,111,114,100]:=by rw [qV,U,show (ByteArray.mk #[114,101,99,111,114,100]).toList=[114,101,99,111,114,100] by decide +kernel];rfl
      by_cases J:t.is [97,114,114,97,121]=true
      ·refine .inl (gY G C ?_);simp [cR,M.row,a1,J,F]
      ·by_cases Y:t.is [114,101,99,111,114,100]=true
       ·refine .inl (gY G C ?_);simp [cR,M.row,a1,a2,J,Y,F]
       ·simp [It.step,Fl.step,M.row,F,J,Y,Gw.sr] at C
     ·have H:(t.k == 2)=false:=by simpa using U
      have a1:wk 2 ⟨#[97,114,114,97,121]⟩ t=false:=by simp only [wk,H,Vr]
      have a2:wk 2 ⟨#[114,101,99,111,114,100]⟩ t=false:=by simp only [wk,H,Vr]
      refine .inr ⟨?_,fun K _=>?_⟩
      ·intro k K n E R I
       by_cases J:t.is [97,114,114,97,121]=true
       ·simp only [It.step,Fl.step,M.row,F,J,Tu,Ui,Vb,Gw.sr] at C;cases C;exact jr (nC (by simp [Fl.takes,H])) I
       ·by_cases Y:t.is [114,101,99,111,114,100]=true
        ·simp only [It.step,Fl.step,M.row,F,J,Y,Tu,Ui,Vb,Gw.sr] at C;cases C;exact jr (nC (by simp [Fl.takes,H])) I
        ·simp [It.step,Fl.step,M.row,F,J,Y,Gw.sr] at C
      ·have e:dst L (.fl (.mt .kind)) d=([.fl .nm,.lv 8],eI 8 d):=by
        simp only [dst,G,cR,Option.elim,a1,a2,Tu,Ui];rfl
       refine km.step ?_ ?_
       ·rw [e];refine sS (t:=t) ?_ df (by simp [Fl.takes,F]);rw [jv Z];exact G
       ·rw [e,jv Z];rfl
   ·by_cases h2:m=.statement
    ·subst h2
     by_cases k1:(t.k == 1)=true
     ·refine .inl (gY G C ?_);simp [cR,M.row,k1]
     ·have F:(t.k == 1)=false:=by simpa using k1
      by_cases U:(t.k == 2)=true
      ·refine .inl (gY G C ?_);simp [cR,M.row,F,U]
      ·have H:(t.k == 2)=false:=by simpa using U
       refine .inr ⟨?_,fun K _=>?_⟩
       ·intro k K n E R I;simp only [It.step,Fl.step,M.row,F,Tu,Ui] at C
        rcases mH t.t with e|⟨nd,r',e⟩
        ·rw [e] at C;cases C
        ·rw [e] at C;cases C;exact jr (nC (by simp [Fl.takes,H])) I
       ·have e:dst L (.fl (.mt .statement)) d=([],fj L false d):=by
         simp only [dst,G,cR,F,H,Tu,Ui]
        refine ⟨K,fj L false d,?_,?_,.inl ?_⟩
        ·refine .step ?_;rw [e];exact .refl
        ·simp [fj,Z,(eU G).2.2]
        ·simp [fj,Z,(eU G).2.2]
    ·exact .inl (gY G C (wZ h1 h2))
  |_=>
   simp only [It.step,Fl.step] at C
   split at C <;> cases C
 |lv n=>
  cases C;exact .inl (by simp only [dst,Bj (n:=n) Z])
 |all r=>cases C;exact .inl (by rw [iK];rfl)
 |once p=>
  rcases rC (t:=t) (p:=p) with e|⟨k,m,rfl,Q,O,e⟩
  ·cases C;refine .inl ?_;simp only [dst,G,e,iK]
  ·refine .inr ⟨?_,fun K hK=>?_⟩
   ·intro j K n E R I;simp only [It.step,Pk.pick,Q,UM,Option.toList] at C;cases C;exact vC Q O I
   ·have S:=nR hK;refine km.step ?_ rfl;simp only [dst,G,e];exact sJ (Ie Q O) K d (S.2.2.2 k rfl) G
 |again p=>
  rcases rC (t:=t) (p:=p) with e|⟨k,m,rfl,Q,O,e⟩
  ·cases C;refine .inl ?_;simp only [dst,G,e,iK]
  ·refine .inr ⟨?_,fun K hK=>?_⟩
   ·intro j K n E R I;simp only [It.step,Pk.pick,Q,UM,Iy] at C;cases C;exact vC Q O I
   ·have S:=nR hK;refine km.step ?_ rfl;simp only [dst,G,e];exact sJ (Ie Q O) K d (S.2.2.2 k rfl) G
theorem Rg {t:Tv}{L:List Tv}{k:Nat}{K:List It}{n:Int}{E:List Ev}{R:Ro}(h:Ru t k K n E R):∀(d:D),cZ L d=some t->nw K=true ->
  (∀G m F,R=.yes G m F->nw G=true/\∃x o,F=E++o/\(∀m,x≠Fl.mt m)/\x.takes t=true/\mz L K d (.fl x :: G) (lU d o))/\(R=.no->km L K d):=by
 induction h with
 |nil=>
  intro d C _;exact ⟨(fun G m F e=>by cases e),fun _=>⟨[],d,.refl,rfl,.inr ⟨rfl,(eU C).1⟩⟩⟩
 |ref hs=>
  rename_i i K n E
  intro d C O;refine ⟨(fun G m F e=>by cases e),fun _=>?_⟩;cases i with
  |fl x=>
   by_cases J:∃m,x=.mt m
   ·obtain ⟨m,rfl⟩:=J;have Y:=(eU C).1
    have fin:cR (some t) m=.ref->km L (.fl (.mt m) :: K) d:=fun e=>by
     refine ⟨K,fj L false d,?_,by simp [fj,Y,(eU C).2.2],.inl (by simp [fj,Y,(eU C).2.2])⟩;refine .step ?_;simp only [dst,C,e];exact .refl
    by_cases S:m=.kind
    ·subst S;simp only [It.step,Fl.step,M.row] at hs
     by_cases H:(t.k == 1)=true
     ·rw [IO H] at hs;cases hs
     rw [Eq H] at hs
     by_cases Z:t.is [97,114,114,97,121]=true
     ·rw [IO Z] at hs;cases hs
     rw [Eq Z] at hs
     by_cases b2:t.is [114,101,99,111,114,100]=true
     ·rw [IO b2] at hs;cases hs
     have a1:wk 2 ⟨#[97,114,114,97,121]⟩ t=false:=by
      rw [qV,show (ByteArray.mk #[97,114,114,97,121]).toList=[97,114,114,97,121] by decide +kernel];have:(t.t.toList == [97,114,114,97,121])=false:=by simpa [Tv.is] using Z
      rw [this,Uz]
     have a2:wk 2 ⟨#[114,101,99,111,114,100]⟩ t=false:=by
      rw [qV,show (ByteArray.mk #[114,101,99,111,114,100]).toList=[114,101,99,111,114,100] by decide +kernel];have:(t.t.toList == [114,101,99,111,114,100])=false:=by simpa [Tv.is] using b2
      rw [this,Uz]
     have e:dst L (.fl (.mt .kind)) d=([.fl .nm,.lv 8],eI 8 d):=by
      simp only [dst,C,cR,Option.elim,a1,a2,Tu,Ui];rfl
     refine km.step ?_ ?_
     ·rw [e];refine sS (t:=t) ?_ df (by simpa [Fl.takes] using H);rw [jv Y];exact C
     ·rw [e,jv Y];rfl
    ·by_cases U:m=.statement
     ·subst U;refine fin ?_;simp only [It.step,Fl.step,M.row] at hs
      by_cases H:(t.k == 1)=true
      ·rw [IO H] at hs;cases hs
      rw [Eq H] at hs;simp only [cR,Eq H]
      split
      ·rcases mH t.t with e|⟨nd,r',e⟩
       ·exact e
       ·rw [e] at hs;cases hs
      ·rfl
     ·refine fin ?_;rw [wZ S U];simp only [It.step,Fl.step] at hs;cases I:M.row t m with
      |ref=>rfl
      |ex r=>rw [I] at hs;cases hs
      |op nd r=>rw [I] at hs;cases hs
   ·refine sS C (fun m e=>J ⟨m,e⟩) ?_;cases x with
    |mt m=>exact absurd ⟨m,rfl⟩ J
    |_=>
     simp only [It.step,Fl.step] at hs
     split at hs
     ·cases hs
     ·rename_i h;simpa using h
  |_=>cases hs
 |tk hs=>
  rename_i i K n E
  intro d C O;refine ⟨fun G m F e=>?_,(fun e=>by cases e)⟩;cases e;refine ⟨(nR O).1,?_⟩;cases i with
  |fl x=>
   have J:∀m,x≠.mt m:=by
    intro m e;subst e;simp only [It.step,Fl.step] at hs;cases I:M.row t m <;> rw [I] at hs <;> cases hs
   refine ⟨x,[],by simp,J,?_,by rw [iK];exact .refl⟩;cases x with
   |mt m=>exact absurd rfl (J m)
   |_=>
    simp only [It.step,Fl.step] at hs
    split at hs
    ·rename_i h;exact h
    ·cases hs
  |_=>cases hs
 |go hs I ih=>
  rename_i k i K n dn E o r R
  intro d C O
  rcases Es C hs with e|⟨e1,e2⟩
  ·have Q:=OF (L:=L) (d:=d) O;have aa:cZ L (lU d o)=some t:=C;rw [e] at Q;obtain ⟨S,U⟩:=ih (lU d o) aa Q;refine ⟨fun G m F eR=>?_,fun eR=>?_⟩
   ·obtain ⟨a,x,o2,b,c,f,g⟩:=S G m F eR;refine ⟨a,x,o++o2,by rw [b,S5],c,f,.step ?_⟩;rw [e,<-Ff];exact g
   ·refine km.step ?_ (by rw [e];rfl);rw [e];exact U eR
  ·have:=e1 _ _ _ _ _ I;subst this;exact ⟨(fun G m F e=>by cases e),fun _=>e2 K O⟩
inductive qU|live (K:List It) (n:Int)|stuck (e n:Int)|shut
def beg (K:List It) (n:Int):List It:=if n == 0 then ci++.lv 1 :: K else K
def ii (n:Int):Int:=if n == 0 then 1 else n
def bR (n:Int):List Ev:=if n == 0 then [⟨1,1,aB⟩] else []
inductive kn (t:Tv):qU->List Ev->Int->qU->Prop
 |shut:kn t .shut [] 4 .shut
 |stuck {e n:Int}:kn t (.stuck e n) [] e (.stuck e n)
 |note {K:List It} {n:Int}:(t.k == 7 || t.k == 8)=true->kn t (.live K n) (bR n++[⟨4,0,t⟩]) 0 (.live (beg K n) (ii n))
 |no {K:List It} {n:Int} {k:Nat}:(t.k == 7 || t.k == 8)=false->Ru t k (beg K n) (ii n) (bR n) .no->k<=(beg K n).length+20->kn t (.live K n) [] 120 (.stuck 120 n)
 |deep {K L:List It} {n m:Int} {E:List Ev} {k:Nat}:(t.k == 7 || t.k == 8)=false->Ru t k (beg K n) (ii n) (bR n) (.yes L m E)->k<=(beg K n).length+20->1000<m->kn t (.live K n) [] 122 (.stuck 122 n)
 |yes {K L:List It} {n m:Int} {E:List Ev} {k:Nat}:(t.k == 7 || t.k == 8)=false->Ru t k (beg K n) (ii n) (bR n) (.yes L m E)->k<=(beg K n).length+20->m<=1000->kn t (.live K n) (E++[⟨2,0,t⟩]) 0 (.live L m)
structure Lz (K:List It) (n:Int):Prop where
 wf:j8 K
 lv:((bM K).length:Int)=n
 sn:(bM K).length<=5000000
 sk:K.length<=500000
inductive xG:qU->List Ev->Int->Prop
 |shut:xG .shut [] 4
 |stuck {e n:Int}:xG (.stuck e n) [] e
 |all {K:List It} {n:Int}:K.length=1->xG (.live K n) [⟨3,1,aB⟩] 0
 |open {K:List It} {n:Int}:K.length≠1->xG (.live K n) [] 121
def Fl.ht:Fl->Nat
 |.mt .typed=>5
 |.mt .list=>3
 |_=>1
def rh:List Fl->Nat
 |[]=>0
 |x :: r=>max (x.ht+r.length) (rh r)
def Pk.ht:Pk->Nat
 |.row r=>rh r
 |.fn _=>1
 |.ex m=>(Fl.mt m).ht
def It.ht:It->Nat
 |.fl x=>x.ht
 |.lv _=>0
 |.once p=>max 1 p.ht
 |.again p=>1+max 1 p.ht
 |.all r=>max 1 (rh r)
def xn:List It->Nat
 |[]=>0
 |.lv _ :: _=>0
 |_ :: K=>1+xn K
def fb:List It->Prop
 |[]=>True
 |.lv _ :: K=>fb K
 |i :: K=>i.ht+xn K<=15/\fb K
theorem Fl.ht_pos (x:Fl):1<=x.ht:=by
 cases x with
 |mt m=>cases m <;> decide
 |_=>exact gt _
theorem It.ht_pos (i:It) (h:∀n,i≠.lv n):1<=i.ht:=by
 cases i with
 |fl x=>exact x.ht_pos
 |lv n=>exact absurd rfl (h n)
 |once p=>simp only [It.ht];omega
 |again p=>simp only [It.ht];omega
 |all r=>simp only [It.ht];omega
theorem lk (h:∀n,i≠.lv n) (K:List It):xn (i :: K)=1+xn K:=by
 cases i with
 |lv n=>exact absurd rfl (h n)
 |_=>rfl
theorem fq (h:∀n,i≠.lv n) (K:List It):fb (i :: K)↔i.ht+xn K<=15/\fb K:=by
 cases i with
 |lv n=>exact absurd rfl (h n)
 |_=>exact Iff.rfl
theorem yU:∀{K:List It},fb K->xn K<=15
 |[],_=>SW _
 |i :: K,h=>by
  by_cases F:∃n,i=.lv n
  ·obtain ⟨n,rfl⟩:=F;exact SW _
  ·have C:∀n,i≠.lv n:=fun n e=>F ⟨n,e⟩
   have G:=((fq C K).1 h).1;have:=i.ht_pos C;rw [lk C];omega
theorem t8:∀{K:List It},fb K->K.length<=16*(bM K).length+xn K
 |[],_=>SW _
 |i :: K,h=>by
  by_cases G:∃n,i=.lv n
  ·obtain ⟨n,rfl⟩:=G;have F:fb K:=h;have:=t8 F;have:=yU F;simp [bM,xn];omega
  ·have C:∀n,i≠.lv n:=fun n e=>G ⟨n,e⟩
   have:=t8 ((fq C K).1 h).2
   have e:bM (i :: K)=bM K:=by
    cases i with
    |lv n=>exact absurd rfl (C n)
    |_=>rfl
   rw [lk C,e];simp;omega
theorem Ow (r:List Fl) (K:List It) (h:rh r+xn K<=15) (G:fb K):fb (r.map It.fl++K)/\xn (r.map It.fl++K)=r.length+xn K:=by
 induction r with
 |nil=>exact ⟨G,by simp⟩
 |cons x r ih=>
  simp only [rh] at h;obtain ⟨F,C⟩:=ih (by omega);refine ⟨(fq (fun n e=>by cases e) _).2 ⟨?_,F⟩,?_⟩
  ·show x.ht+xn (r.map It.fl++K)<=15
   rw [C];omega
  ·show xn (.fl x :: (r.map It.fl++K))=_
   rw [lk (fun n e=>by cases e),C,List.length_cons];omega
theorem Au {t:Tv}{p:Pk}(h:Pk.pick t p=some i):i.ht<=max 1 p.ht/\∀n,i≠.lv n:=by
 cases p with
 |fn d=>
  simp only [Pk.pick,Ts] at h;obtain ⟨m,C,rfl⟩:=h;have:=ov C;refine ⟨?_,fun n e=>by cases e⟩
  rcases this with rfl|rfl|rfl|rfl|rfl|rfl|rfl <;> exact gt 1
 |row r=>
  simp only [Pk.pick] at h
  split at h
  ·cases h;exact ⟨gt _,fun n e=>by cases e⟩
  ·cases h
 |ex m=>
  simp only [Pk.pick] at h
  split at h
  ·cases h
  ·cases h;exact ⟨by show (Fl.mt m).ht<=max 1 (Fl.mt m).ht;omega,fun n e=>by cases e⟩
def Gw.fb (m:M):Gw->Prop
 |.ref=>True
 |.ex r=>∀K,(Fl.mt m).ht+xn K<=15->Go.Proofs.YtcjiapphbpiffaaGreatDoor.fb K->Go.Proofs.YtcjiapphbpiffaaGreatDoor.fb (r++K)
 |.op nd r=>∀K,Go.Proofs.YtcjiapphbpiffaaGreatDoor.fb K->Go.Proofs.YtcjiapphbpiffaaGreatDoor.fb (r++.lv nd :: K)
theorem Nt (t:Tv) (m:M):(M.row t m).fb m:=by
 cases m <;> simp only [M.row,co] <;> (repeat' split) <;> simp [Gw.fb,fb,xn,It.ht,Fl.ht,Pk.ht,rh]
 all_goals (intro K F C;simp only [C,and_true];omega)
theorem sC {t:Tv}{d:Int}{K:List It}(h:It.step t i=.go d o r) (I:fb (i :: K)):fb (r++K):=by
 cases i with
 |fl x=>
  obtain ⟨G,F⟩:=(fq (fun n e=>by cases e) K).1 I
  have Q:∃m,x=.mt m:=by
   cases x with
   |mt m=>exact ⟨m,rfl⟩
   |_=>simp only [It.step,Fl.step] at h;split at h <;> cases h
  obtain ⟨m,rfl⟩:=Q;have J:=Nt t m;simp only [It.step,Fl.step] at h;cases C:M.row t m with
  |ref=>rw [C] at h;cases h
  |ex r'=>rw [C] at h J;cases h;exact J K G F
  |op nd r'=>rw [C] at h J;cases h;rw [S5];exact J K F
 |lv n=>cases h;exact I
 |once p=>
  obtain ⟨G,F⟩:=(fq (fun n e=>by cases e) K).1 I;simp only [It.step] at h;cases H:Pk.pick t p with
  |none=>rw [H] at h;cases h;exact F
  |some j=>
   rw [H] at h;cases h;obtain ⟨a,b⟩:=Au H;exact (fq b K).2 ⟨by simp only [It.ht] at G;omega,F⟩
 |again p=>
  have O:∀n,It.again p≠.lv n:=fun n e=>by cases e
  obtain ⟨G,F⟩:=(fq O K).1 I;simp only [It.step] at h;cases H:Pk.pick t p with
  |none=>rw [H] at h;cases h;exact F
  |some j=>
   rw [H] at h;cases h;obtain ⟨a,b⟩:=Au H;refine (fq b _).2 ⟨?_,I⟩;show j.ht+xn (.again p :: K)<=15;rw [lk O];simp only [It.ht] at G;omega
 |all r'=>
  obtain ⟨G,F⟩:=(fq (fun n e=>by cases e) K).1 I;cases h;exact (Ow r' K (by simp only [It.ht] at G;omega) F).1
def cJ:List Int->List Ev->Option (List Int)
 |s,[]=>some s
 |s,e :: r=>if e.k=1 then cJ (e.n :: s) r else if e.k=3 then (match s with|n :: s'=>if n=e.n then cJ s' r else none|[]=>none) else cJ s r
theorem dV:∀(a b:List Ev) (s s':List Int),cJ s a=some s'->cJ s (a++b)=cJ s' b
 |[],b,s,s',h=>by cases h;rfl
 |e :: r,b,s,s',h=>by
  simp only [cJ,Tr] at h ⊢
  split
  ·rename_i C;rw [IO C] at h;exact dV r b _ _ h
  ·rename_i C
   rw [Eq C] at h
   split
   ·rename_i F
    rw [IO F] at h;cases s with
    |nil=>cases h
    |cons n s=>
     simp only at h ⊢
     split
     ·rename_i G;rw [IO G] at h;exact dV r b _ _ h
     ·rename_i G;rw [Eq G] at h;cases h
   ·rename_i F;rw [Eq F] at h;exact dV r b _ _ h
theorem lK {t:Tv}{i:It}{d:Int}{o:List Ev}{r K:List It}(h:It.step t i=.go d o r) (H:i.wf):cJ (bM (i :: K)) o=some (bM (r++K)):=by
 have J:=fQ (K:=K) h H;cases i with
 |fl x=>
  have I:∃m,x=.mt m:=by
   cases x with
   |mt m=>exact ⟨m,rfl⟩
   |_=>simp only [It.step,Fl.step] at h;split at h <;> cases h
  obtain ⟨m,rfl⟩:=I;have G:=io t m;simp only [It.step,Fl.step] at h;cases C:M.row t m with
  |ref=>rw [C] at h;cases h
  |ex r'=>rw [C] at h G;cases h;rw [bO,G.2.2];rfl
  |op nd r'=>rw [C] at h G;cases h;rw [bO,bO,G.2.2.1];rfl
 |lv n=>cases h;simp [cJ,bM]
 |once p=>
  simp only [It.step] at h;cases F:Pk.pick t p with
  |none=>rw [F] at h;cases h;rfl
  |some j=>rw [F] at h;cases h;show some (bM K)=some (bM ([j]++K));rw [bO,(nN H F).2];rfl
 |again p=>
  simp only [It.step] at h;cases F:Pk.pick t p with
  |none=>rw [F] at h;cases h;rfl
  |some j=>rw [F] at h;cases h;show some (bM K)=some (bM ([j]++([.again p]++K)));rw [bO,(nN H F).2];rfl
 |all r'=>cases h;rw [bO,kb];rfl
structure Ok (K:List It) (n:Int):Prop where
 wf:j8 K
 fb:fb K
 lv:((bM K).length:Int)=n
 le:n<=1000
theorem Ok.lz {K:List It}(h:Ok K n):Lz K n:=by
 have C:=h.lv;have F:=h.le;have G:=t8 h.fb;have H:=yU h.fb;exact ⟨h.wf,h.lv,by omega,by omega⟩
theorem eM {t:Tv}{K:List It}{R:Ro}(h:Ru t k K n E R):∀{L:List It}{m:Int}{F:List Ev},R=.yes L m F->j8 K->fb K->((bM K).length:Int)=n ->
  j8 L/\fb L/\((bM L).length:Int)=m/\∃o,F=E++o/\cJ (bM K) o=some (bM L)/\(∀e∈o,e.d=aB/\(e.k=1\/e.k=3)/\(e.k=1->e.n≠1))/\o.length<=k:=by
 induction h with
 |nil=>intro L m F h;cases h
 |ref _=>intro L m F h;cases h
 |tk hs=>
  rename_i i K n E
  intro L m F h H I O;cases h;have S:∀a,i≠.lv a:=fun a e=>by subst e;cases hs
  have e:bM (i :: K)=bM K:=by
   cases i with
   |lv a=>exact absurd rfl (S a)
   |_=>rfl
  rw [e] at O;exact ⟨fun j J=>H j (SZ _ J),((fq S K).1 I).2,O,[],by simp,by rw [e];rfl,fun x C=>by simp at C,SW _⟩
 |go hs _ ih=>
  rename_i k i K n d E o r R _
  intro L m F h H I O;have Q:=H i (S4 ..);obtain ⟨Z,a2,a3,a4⟩:=fQ (K:=K) hs Q;obtain ⟨b1,b2,b3,o2,b4,b5,b6,b7⟩:=ih h (fO Z (fun j J=>H j (SZ _ J))) (sC hs I) (by omega);refine ⟨b1,b2,b3,o++o2,by rw [b4,S5],(dV o o2 _ _ (lK hs Q)).trans b5,?_,by simp;omega⟩;intro x C
  rcases To.1 C with C|C
  ·cases i with
   |fl y=>
    have hm:∃m,y=.mt m:=by
     cases y with
     |mt m=>exact ⟨m,rfl⟩
     |_=>simp only [It.step,Fl.step] at hs;split at hs <;> cases hs
    obtain ⟨Y,rfl⟩:=hm;have U:=io t Y;simp only [It.step,Fl.step] at hs;cases G:M.row t Y with
    |ref=>rw [G] at hs;cases hs
    |ex r'=>rw [G] at hs;cases hs;simp at C
    |op nd r'=>rw [G] at hs U;cases hs;simp at C;subst C;exact ⟨rfl,.inl rfl,fun _=>by have:=U.2.2.2.1;show nd≠1;omega⟩
   |lv a=>cases hs;simp at C;subst C;exact ⟨rfl,.inr rfl,fun e=>by cases e⟩
   |once p=>cases hs;simp at C
   |again p=>cases hs;simp at C
   |all r'=>cases hs;simp at C
  ·exact b6 x C
theorem NQ {K:List It}(h:Ok K n) (G:n=0->K=[]):j8 (beg K n)/\fb (beg K n)/\((bM (beg K n)).length:Int)=ii n/\cJ (bM K) (bR n)=some (bM (beg K n))/\(beg K n).length<=20000:=by
 have Q:=h.lz;have M:=t8 h.fb;have O:=yU h.fb;have I:=h.lv;have J:=h.le
 by_cases C:n=0
 ·obtain rfl:=G C;subst C;refine ⟨?_,?_,rfl,rfl,by simp [beg,ci]⟩
  ·intro i F;simp [beg,ci] at F
   rcases F with rfl|rfl|rfl|rfl|rfl|rfl <;> trivial
  ·simp [beg,ci,fb,It.ht,Fl.ht,xn]
 ·have H:(n == 0)=false:=by simpa using C
  simp only [beg,ii,bR,H,Tu,Ui];exact ⟨h.wf,h.fb,h.lv,rfl,by omega⟩
def Ph (K:List It):Prop:=∃X,K=X++[.lv 1]
theorem pd {t:Tv}{K:List It}{R:Ro}(h:Ru t k K n E R):∀{L:List It}{m:Int}{F:List Ev},R=.yes L m F->Ph K->Ph L:=by
 induction h with
 |nil=>intro L m F h;cases h
 |ref _=>intro L m F h;cases h
 |tk hs=>
  rename_i i K n E
  intro L m F h G;cases h;obtain ⟨X,C⟩:=G;cases X with
  |nil=>simp at C;obtain ⟨rfl,rfl⟩:=C;cases hs
  |cons j X=>simp at C;exact ⟨X,C.2⟩
 |go hs hr ih=>
  rename_i k i K n d E o r R
  intro L m F h G;obtain ⟨X,C⟩:=G;cases X with
  |nil=>
   simp at C;obtain ⟨rfl,rfl⟩:=C;cases hs;cases hr;cases h
  |cons j X=>
   simp at C;obtain ⟨rfl,rfl⟩:=C;exact ih h ⟨r++X,by simp⟩
theorem jh {K:List It}(h:Ph K):1<=(bM K).length:=by
 obtain ⟨X,rfl⟩:=h;rw [bO];simp [bM]
def gu:qU->Prop
 |.live K n=>Ok K n/\((n=0/\K=[])\/Ph K)
 |.stuck e n=>e=120\/e=122
 |.shut=>True
theorem fB:gu (.live [] 0):=⟨⟨ik,trivial,rfl,by decide⟩,.inl ⟨rfl,rfl⟩⟩
def qU.path:qU->List Int
 |.live K _=>bM K
 |_=>[]
theorem cQ {K:List It}(h:gu (.live K n)):j8 (beg K n)/\fb (beg K n)/\((bM (beg K n)).length:Int)=ii n/\cJ (bM K) (bR n)=some (bM (beg K n))/\(beg K n).length<=20000/\Ph (beg K n)/\ii n<=1000/\(bR n).length<=1:=by
 have F:n=0->K=[]:=by
  intro e
  rcases h.2 with C|C
  ·exact C.2
  ·have:=jh C;have:=h.1.lv;omega
 obtain ⟨G,H,I,J,M⟩:=NQ h.1 F;have Q:=h.1.le;refine ⟨G,H,I,J,M,?_,by unfold ii;split <;> omega,by unfold bR;split <;> simp⟩
 by_cases e:n=0
 ·obtain rfl:=F e;subst e;exact ⟨ci,by simp [beg]⟩
 ·rcases h.2 with C|C
  ·exact absurd C.1 e
  ·have O:(n == 0)=false:=by simpa using e
   simp only [beg,O,Tu,Ui];exact C
theorem dU {st st':qU}{t:Tv}{ev:List Ev}(h:gu st) (U:kn t st ev code st'):gu st'/\ev.length<=30000/\(code=0->∃K n,st'=.live K n/\Ph K)/\(code=0->cJ st.path ev=some st'.path):=by
 cases U with
 |shut=>exact ⟨trivial,by simp,fun h=>(by cases h),fun h=>(by cases h)⟩
 |stuck=>exact ⟨h,by simp,fun M=>(by subst M;rcases h with h|h <;> cases h),fun M=>(by subst M;rcases h with h|h <;> cases h)⟩
 |note hc=>
  obtain ⟨G,H,I,J,S,C,F,O⟩:=cQ h;refine ⟨⟨⟨G,H,I,F⟩,.inr C⟩,by simp;omega,fun _=>⟨_,_,rfl,C⟩,fun _=>?_⟩;refine (dV _ _ _ _ J).trans ?_;simp [cJ];rfl
 |no hc hR hk=>exact ⟨.inl rfl,by simp,fun h=>(by cases h),fun h=>(by cases h)⟩
 |deep hc hR hk hm=>exact ⟨.inr rfl,by simp,fun h=>(by cases h),fun h=>(by cases h)⟩
 |yes hc hR hk hm=>
  obtain ⟨G,H,I,J,S,C,F,O⟩:=cQ h;obtain ⟨c1,c2,c3,o,c4,c5,c6,c7⟩:=eM hR rfl G H I;have Q:=pd hR rfl C;refine ⟨⟨⟨c1,c2,c3,by omega⟩,.inr Q⟩,by rw [c4];simp;omega,fun _=>⟨_,_,rfl,Q⟩,fun _=>?_⟩;rw [c4,S5];refine (dV _ _ _ _ J).trans ((dV _ _ _ _ c5).trans ?_);simp [cJ];rfl
theorem NG {st:qU}(h:gu st) (t:Tv):∃ev code st',kn t st ev code st':=by
 cases st with
 |shut=>exact ⟨_,_,_,.shut⟩
 |stuck e n=>exact ⟨_,_,_,.stuck⟩
 |live K n=>
  obtain ⟨M,U,Y,Z,b5,J,S,Q⟩:=cQ h
  by_cases I:(t.k == 7 || t.k == 8)=true
  ·exact ⟨_,_,_,.note I⟩
  ·have C:(t.k == 7 || t.k == 8)=false:=by simpa using I
   obtain ⟨k,R,H,G⟩:=Ml t (beg K n) M (ii n) (bR n);cases R with
   |no=>exact ⟨_,_,_,.no C G H⟩
   |yes L m F=>
    by_cases O:1000<m
    ·exact ⟨_,_,_,.deep C G H O⟩
    ·exact ⟨_,_,_,.yes C G H (by omega)⟩
theorem Hh (st:qU):∃ev code,xG st ev code/\ev.length<=1:=by
 cases st with
 |live K n=>
  by_cases h:K.length=1
  ·exact ⟨_,_,.all h,by simp⟩
  ·exact ⟨_,_,.open h,by simp⟩
 |stuck e n=>exact ⟨_,_,.stuck,by simp⟩
 |shut=>exact ⟨_,_,.shut,by simp⟩
inductive gS:qU->List Tv->List Ev->Int->Nat->Prop
 |nil {st:qU} {ev:List Ev} {code:Int}:xG st ev code->gS st [] ev code 0
 |err {st st':qU} {t:Tv} {l:List Tv} {ev:List Ev} {code:Int}:kn t st ev code st'->code≠0->gS st (t :: l) [] code 0
 |on {st st':qU} {t:Tv} {l:List Tv} {ev E:List Ev} {code:Int} {k:Nat}:kn t st ev 0 st'->gS st' l E code k->gS st (t :: l) (ev++E) code (k+1)
theorem Iu:∀(l:List Tv) (st:qU),gu st->∃E code k,gS st l E code k
 |[],st,h=>by
  obtain ⟨ev,code,C,_⟩:=Hh st;exact ⟨_,_,_,.nil C⟩
 |t :: l,st,h=>by
  obtain ⟨ev,code,st',C⟩:=NG h t;have G:=(dU h C).1
  by_cases F:code=0
  ·subst F;obtain ⟨E,c,k,H⟩:=Iu l st' G;exact ⟨_,_,_,.on C H⟩
  ·exact ⟨_,_,_,.err C F⟩
theorem gS.inv {st:qU}{t:Tv}{l:List Tv}(h:gS st (t :: l) E code k):(∃ev st',kn t st ev code st'/\code≠0/\E=[]/\k=0)\/(∃ev st' C F,kn t st ev 0 st'/\gS st' l C code F/\E=ev++C/\k=F+1):=by
 cases h with
 |err h1 h2=>exact .inl ⟨_,_,h1,h2,rfl,rfl⟩
 |on h1 h2=>exact .inr ⟨_,_,_,_,h1,h2,rfl,rfl⟩
theorem gS.end {st:qU}(h:gS st [] E code k):xG st E code/\k=0:=by
 cases h with
 |nil h1=>exact ⟨h1,rfl⟩
inductive xN (t:Tv):List It->Prop
 |fl {x:Fl} {K:List It}:xN t (.fl x :: K)
 |all {r:List Fl} {K:List It}:Mk r->xN t (.all r :: K)
 |onceS {p:Pk} {i:It} {K:List It}:Pk.pick t p=some i->xN t (.once p :: K)
 |againS {p:Pk} {i:It} {K:List It}:Pk.pick t p=some i->xN t (.again p :: K)
 |onceN {p:Pk} {K:List It}:Pk.pick t p=none->xN t K->xN t (.once p :: K)
 |againN {p:Pk} {K:List It}:Pk.pick t p=none->xN t K->xN t (.again p :: K)
def Gw.cm (t:Tv):Gw->Prop
 |.ref=>True
 |.ex r=>∀K,xN t (r++K)
 |.op nd r=>∀K,xN t (r++K)
theorem He (t:Tv) (p:Pk) (x:Fl) (K:List It):xN t (.again p :: .fl x :: K):=by
 cases h:Pk.pick t p with
 |none=>exact .againN h .fl
 |some i=>exact .againS h
theorem Nu (t:Tv) (m:M):(M.row t m).cm t:=by
 cases m <;> simp only [M.row,co] <;> (repeat' split)
 all_goals first
  |trivial
  | (intro K;exact .fl)
  | (intro K;exact He t _ _ _)
theorem vU {t:Tv}{p:Pk}(C:p.wf) {i:It}(h:Pk.pick t p=some i) (K:List It):xN t (i :: K):=by
 cases p with
 |fn d=>
  simp only [Pk.pick,Ts] at h;obtain ⟨m,_,rfl⟩:=h;exact .fl
 |row r=>
  simp only [Pk.pick] at h
  split at h
  ·cases h;exact .all C
  ·cases h
 |ex m=>
  simp only [Pk.pick] at h
  split at h
  ·cases h
  ·cases h;exact .fl
theorem vk {t:Tv}{d:Int}{K:List It}(h:It.step t i=.go d o r) (I:i.wf) (hc:xN t (i :: K)):xN t (r++K)/\(∀e∈o,e.k=1)/\0<=d:=by
 cases i with
 |fl x=>
  have J:∃m,x=.mt m:=by
   cases x with
   |mt m=>exact ⟨m,rfl⟩
   |_=>simp only [It.step,Fl.step] at h;split at h <;> cases h
  obtain ⟨m,rfl⟩:=J;have H:=Nu t m;simp only [It.step,Fl.step] at h;cases F:M.row t m with
  |ref=>rw [F] at h;cases h
  |ex r'=>rw [F] at h H;cases h;exact ⟨H K,fun e C=>by simp at C,by omega⟩
  |op nd r'=>rw [F] at h H;cases h;rw [S5];exact ⟨H _,fun e C=>by simp at C;subst C;rfl,by omega⟩
 |lv n=>cases hc
 |once p=>
  simp only [It.step] at h;cases G:Pk.pick t p with
  |none=>
   rw [G] at h;cases h;cases hc with
   |onceS h2=>rw [G] at h2;cases h2
   |onceN _ h2=>exact ⟨h2,fun e C=>by simp at C,by omega⟩
  |some j=>rw [G] at h;cases h;exact ⟨vU I G K,fun e C=>by simp at C,by omega⟩
 |again p=>
  simp only [It.step] at h;cases G:Pk.pick t p with
  |none=>
   rw [G] at h;cases h;cases hc with
   |againS h2=>rw [G] at h2;cases h2
   |againN _ h2=>exact ⟨h2,fun e C=>by simp at C,by omega⟩
  |some j=>rw [G] at h;cases h;exact ⟨vU I G _,fun e C=>by simp at C,by omega⟩
 |all r'=>
  cases h;obtain ⟨⟨k,ts,rest,rfl⟩,_⟩:=I;exact ⟨.fl,fun e C=>by simp at C,by omega⟩
theorem EL {t:Tv}{K:List It}{R:Ro}(h:Ru t k K n E R):∀{L:List It}{m:Int}{F:List Ev},R=.yes L m F->j8 K->xN t K->∃o,F=E++o/\(∀e∈o,e.k=1):=by
 induction h with
 |nil=>intro L m F h;cases h
 |ref _=>intro L m F h;cases h
 |tk hs=>intro L m F h _ _;cases h;exact ⟨[],by simp,fun e C=>by simp at C⟩
 |go hs _ ih=>
  rename_i k i K n d E o r R _
  intro L m F h H M;have G:=H i (S4 ..);obtain ⟨I,J,Q⟩:=vk hs G M;obtain ⟨o2,b1,b2⟩:=ih h (fO (fQ (K:=K) hs G).1 (fun j O=>H j (SZ _ O))) I;exact ⟨o++o2,by rw [b1,S5],fun e C=>(To.1 C).elim (J e) (b2 e)⟩
theorem EK {t:Tv}{K:List It}{R:Ro}(h:Ru t k K n E R):∀{L:List It}{m:Int}{F:List Ev},R=.yes L m F->j8 K->∃c o,F=E++(c++o)/\(∀e∈c,e.k=3)/\(∀e∈o,e.k=1):=by
 induction h with
 |nil=>intro L m F h;cases h
 |ref _=>intro L m F h;cases h
 |tk hs=>intro L m F h _;cases h;exact ⟨[],[],by simp,fun e C=>by simp at C,fun e C=>by simp at C⟩
 |go hs hr ih=>
  rename_i k i K n d E o r R
  intro L m F h U;have Q:=U i (S4 ..);have G:=fO (fQ (K:=K) hs Q).1 (fun j hj=>U j (SZ _ hj))
  by_cases S:∃a,i=.lv a
  ·obtain ⟨a,rfl⟩:=S;cases hs;obtain ⟨c,J,H,I,M⟩:=ih h G;exact ⟨⟨3,a,aB⟩ :: c,J,by rw [H];simp,fun e C=>(Tt.1 C).elim (fun e1=>by rw [e1]) (I e),M⟩
  ·
   by_cases O:xN t (i :: K)
   ·obtain ⟨Y,Z,a3⟩:=vk hs Q O;obtain ⟨J,H,I⟩:=EL hr h G Y;exact ⟨[],o++J,by rw [H];simp,fun e C=>by simp at C,fun e C=>(To.1 C).elim (Z e) (I e)⟩
   ·have ho:o=[]:=by
     cases i with
     |fl x=>exact absurd .fl O
     |lv a=>exact absurd ⟨a,rfl⟩ S
     |once p=>cases hs;rfl
     |again p=>cases hs;rfl
     |all r'=>cases hs;rfl
    subst ho;obtain ⟨c,J,H,I,M⟩:=ih h G;exact ⟨c,J,by rw [H];simp,I,M⟩
def iB (t:Tv):Bool:=t.k == 7 || t.k == 8
theorem o0 {t:Tv}{K:List It}{R:Ro}(h:Ru t k K n E R) :
  (R=.no->∀C,Ru t k K n C .no)/\(∀L m F,R=.yes L m F->∃o,F=E++o/\∀C,Ru t k K n C (.yes L m (C++o))):=by
 induction h with
 |nil=>exact ⟨fun _ C=>.nil,fun L m F e=>by cases e⟩
 |ref hs=>exact ⟨fun _ C=>.ref hs,fun L m F e=>by cases e⟩
 |tk hs=>
  refine ⟨(fun e=>by cases e),fun L m F e=>?_⟩;cases e;exact ⟨[],by simp,fun C=>by simpa using Ru.tk hs⟩
 |go hs hr ih=>
  refine ⟨fun e C=>.go hs (ih.1 e _),fun L m F e=>?_⟩;obtain ⟨H,rfl,G⟩:=ih.2 L m F e;refine ⟨_,(S5 ..),fun C=>.go hs ?_⟩;rw [<-S5];exact G _
def un (N:Nat->List Ev):D:=⟨0,[],0,[],0,[],N⟩
theorem MG (N:Nat->List Ev):eI 1 (un N)=⟨0,[(1,1)],1,[],0,[⟨1,1,aB⟩],N⟩:=rfl
theorem GQ {L:List Tv}{i:It}{d:D}(h:d.e≠0):(dst L i d).2=d:=by
 have C:cZ L d=none:=by unfold cZ;rw [Eq h]
 have F:∀f,qn L d f=false:=fun f=>by unfold qn;rw [C];rfl
 have ht:fj L false d=d:=by simp [fj,h]
 cases i with
 |fl x=>
  cases x with
  |mt m=>
   simp only [dst];cases cR (cZ L d) m with
   |ref=>exact ht
   |ex r=>rfl
   |op nd r=>exact vZ h
  |_=>simp only [dst,F];exact ht
 |lv n=>exact xu h
 |_=>rfl
theorem kM {K:List It}(h:mz L K d K' d') (C:d.e≠0):d'=d:=by
 induction h with
 |refl=>rfl
 |step _ ih=>
  rename_i i K K' d d' _
  have:=GQ (L:=L) (i:=i) C;rw [this] at ih;exact ih C
theorem A7 {L:List Tv}{i:It}{d:D}(C:d.e=0) (F:cZ L d=none):(dst L i d).2.l=d.l/\(dst L i d).2.i=d.i/\(((dst L i d).2.e=0/\cZ L (dst L i d).2=none)\/(dst L i d).2.e=121):=by
 have G:¬d.i<L.length:=by
  intro h;unfold cZ at F;rw [IO C,Pi h] at F;cases F
 have H:∀f,qn L d f=false:=fun f=>by unfold qn;rw [F];rfl
 have ht:fj L false d={ d with e:=121 }:=by simp [fj,C,G]
 cases i with
 |fl x=>
  cases x with
  |mt m=>
   simp only [dst];cases cR (cZ L d) m with
   |ref=>simp only [ht];exact ⟨trivial,trivial,.inr trivial⟩
   |ex r=>exact ⟨rfl,rfl,.inl ⟨C,F⟩⟩
   |op nd r=>
    simp only;rw [jv C];exact ⟨rfl,rfl,.inl ⟨C,F⟩⟩
  |_=>simp only [dst,H,ht];exact ⟨trivial,trivial,.inr trivial⟩
 |lv n=>
  simp only [dst];rw [Bj (n:=n) C];exact ⟨rfl,rfl,.inl ⟨C,F⟩⟩
 |_=>exact ⟨rfl,rfl,.inl ⟨C,F⟩⟩
theorem JV {K:List It}(h:mz L K d K' d') (C:d.e=0) (F:cZ L d=none):d'.l=d.l/\d'.i=d.i/\(d'.e=0\/d'.e=121):=by
 induction h with
 |refl=>exact ⟨rfl,rfl,.inl C⟩
 |step hr ih=>
  rename_i i K K' d d'
  obtain ⟨a,b,c⟩:=A7 (i:=i) C F
  rcases c with ⟨c1,c2⟩|c
  ·grind
  ·have:=kM hr (by rw [c];decide);rw [this];exact ⟨a,b,.inr c⟩
theorem Cm {x:Fl}(J:∀m,x≠.mt m) {K K':List It}{d d':D}(h:mz L K d K' d'):K'=[]->∀(X Y:List It),K=X++.fl x :: Y->d.e=0->cZ L d=none->d'.e≠0:=by
 induction h with
 |refl=>intro e X Y C;rw [e] at C;cases X <;> cases C
 |step hr ih=>
  rename_i i K K' d d'
  intro e X Y C H F;obtain ⟨a,b,c⟩:=A7 (i:=i) H F
  rcases c with ⟨c1,c2⟩|c
  ·cases X with
   |nil=>
    simp at C;obtain ⟨rfl,rfl⟩:=C
    exfalso
    have G:dst L (.fl x) d=([],fj L (qn L d (fun t=>x.takes t)) d):=by
     cases x with
     |mt m=>exact absurd rfl (J m)
     |_=>rfl
    rw [G] at c1;have I:qn L d (fun t=>x.takes t)=false:=by unfold qn;rw [F];rfl
    rw [I] at c1;exact absurd (oP c1).1 (by decide)
   |cons j X=>
    simp at C;obtain ⟨rfl,rfl⟩:=C;exact ih e ((dst L i d).1++X) Y (by simp) c1 c2
  ·have:=kM hr (by rw [c];decide);rw [this,c]
   decide
def sf (N:Nat->List Ev) (T:List Tv) (K:List It) (p:List (Int × Nat)) (s:Nat) (v:List Ev):Prop:=∀R,∃lst,mz (T++R) (ci++[.lv 1]) (eI 1 (un N)) K ⟨T.length,p,s,lst,0,v,N⟩
theorem rU (N:Nat->List Ev):sf N [] (ci++[.lv 1]) [(1,1)] 1 [⟨1,1,aB⟩]:=fun R=>⟨[],.refl⟩
section
variable {N:Nat->List Ev} {T R:List Tv} {K:List It} {p:List (Int × Nat)} {s:Nat} {l:List (Int × Nat)} {v:List Ev} {t:Tv} {dz:D}
theorem tj:cZ (T++t :: R) ⟨T.length,p,s,l,0,v,N⟩=some t:=by simp [cZ]
theorem Az:cZ (T++[]) ⟨T.length,p,s,l,0,v,N⟩=none:=by simp [cZ]
theorem ym (h:Rb L ci (eI 1 (un N)) dz) {K:List It}{d:D}(C:mz L (ci++[.lv 1]) (eI 1 (un N)) K d):mz L K d [] (nr 1 dz):=C.det ((h [.lv 1]).trans (.step .refl))
theorem qt {n:Int}{d:D}:(nr n d).e=d.e/\(nr n d).i=d.i/\(nr n d).l=d.l:=by unfold nr;split <;> exact ⟨rfl,rfl,rfl⟩
theorem NA (h:sf N T K p s v) (O:nw K=true) {k:Nat}{n:Int}{E:List Ev}(M:Ru t k K n E .no) (J:Rb (T++t :: R) ci (eI 1 (un N)) dz):dz.i=T.length/\(dz.e=120\/dz.e=0):=by
 obtain ⟨Q,H⟩:=h (t :: R);obtain ⟨K',d2,h2,hi,C⟩:=(Rg (L:=T++t :: R) M _ tj O).2 rfl;have F:=ym J (H.trans h2);obtain ⟨c1,c2,c3⟩:=qt (n:=1) (d:=dz)
 rcases C with C|⟨rfl,I⟩
 ·have G:=kM F (by rw [C];decide);exact ⟨by rw [<-c2,G,hi],.inl (by rw [<-c1,G,C])⟩
 ·cases F;exact ⟨by rw [<-c2,hi],.inr (by rw [<-c1];exact I)⟩
theorem zK {x:Fl}(G:x.takes t=true):jn (T++t :: R) x ⟨T.length,p,s,l,0,v,N⟩=if 1000<p.length then ⟨T.length,p,s,l,122,v,N⟩ else ⟨T.length+1,p,s,if R=[] then p else l,0,v++⟨2,0,t⟩ :: N T.length,N⟩:=by
 have F:qn (T++t :: R) ⟨T.length,p,s,l,0,v,N⟩ (fun t=>x.takes t)=true:=by unfold qn;rw [tj];exact G
 unfold jn fj;rw [F];simp only [Vb]
 split
 ·rfl
 ·have:(T.length+1=(T++t :: R).length)↔R=[]:=by
   rw [Or,List.length_cons];constructor
   ·intro h;exact Tl (by omega)
   ·intro h;rw [h];simp
  have C:(T++t :: R)[T.length]?.getD aB=t:=by simp
  simp only [this,C]
theorem xb (h:sf N T K p s v) (Z:nw K=true) {k:Nat}{n m:Int}{E o:List Ev}{G:List It}(Y:Ru t k K n E (.yes G m (E++o))) :
  nw G=true/\(nP o (p,s)).1.map (·.1)=(bM G).reverse/\((nP o (p,s)).1.length<=1000->sf N (T++[t]) G (nP o (p,s)).1 (nP o (p,s)).2 (v++o++⟨2,0,t⟩ :: N T.length))/\(1000<(nP o (p,s)).1.length->∀R dz,Rb (T++t :: R) ci (eI 1 (un N)) dz->dz.e=122/\dz.i=T.length):=by
 have Q:∀R,∃x C,mz (T++t :: R) (ci++[.lv 1]) (eI 1 (un N)) (.fl x :: G) ⟨T.length,(nP o (p,s)).1,(nP o (p,s)).2,C,0,v++o,N⟩/\(∀m,x≠Fl.mt m)/\x.takes t=true:=by
  intro R;obtain ⟨C,h1⟩:=h (t :: R);obtain ⟨_,x,o',e1,M,F,H⟩:=(Rg (L:=T++t :: R) Y _ tj Z).1 _ _ _ rfl;have O:o'=o:=Ug e1.symm;subst O;exact ⟨x,C,h1.trans H,M,F⟩
 refine ⟨?_,?_,?_,?_⟩
 ·exact ((Rg (L:=T++[t]) Y ⟨T.length,p,s,[],0,v,N⟩ tj Z).1 _ _ _ rfl).1
 ·obtain ⟨x,C,H,M,_⟩:=Q [];obtain ⟨_,I⟩:=pj H rfl;obtain ⟨q,e1,O⟩:=I [] [(1,1)] rfl rfl;simp at e1;rw [e1];exact O
 ·intro aa R;obtain ⟨x,C,H,M,F⟩:=Q R;have I:=H.trans (iW M G);have J:=zK (N:=N) (T:=T) (R:=R) (v:=v++o) F (p:=(nP o (p,s)).1) (s:=(nP o (p,s)).2) (l:=C);rw [Eq (by omega)] at J;unfold jn at J;rw [J] at I;refine ⟨if R=[] then (nP o (p,s)).1 else C,?_⟩;rw [S5 T,Or];exact I
 ·intro S R dz hb;obtain ⟨x,C,H,M,F⟩:=Q R;have I:=H.trans (iW M G);have J:=zK (N:=N) (T:=T) (R:=R) (v:=v++o) F (p:=(nP o (p,s)).1) (s:=(nP o (p,s)).2) (l:=C);rw [IO S] at J;unfold jn at J;rw [J] at I;have U:=kM (ym hb I) (by show (122:Int)≠0;decide);obtain ⟨c1,c2,c3⟩:=qt (n:=1) (d:=dz);exact ⟨by rw [<-c1,U],by rw [<-c2,U]⟩
theorem JU (h:mz L [] d [] d'):d'=d:=by cases h;rfl
def IR (K:List It):Prop:=K=[.lv 1]\/∃X,K=X++[.fl (.wd 6 [⟨#[46]⟩]),.lv 1]
theorem ji:IR (ci++[.lv 1]):=.inr ⟨[.fl (.wd 2 [⟨#[112,114,111,103,114,97,109]⟩]),.fl (.nm),.fl (.wd 6 [⟨#[59]⟩]),.fl (.mt .block)],rfl⟩
theorem sO {t:Tv}{K:List It}{R:Ro}(h:Ru t k K n E R):∀{L:List It}{m:Int}{F:List Ev},R=.yes L m F->IR K->IR L:=by
 induction h with
 |nil=>intro L m F h;cases h
 |ref _=>intro L m F h;cases h
 |tk hs=>
  rename_i i K n E
  intro L m F h G;cases h
  rcases G with G|⟨X,C⟩
  ·simp at G;obtain ⟨rfl,rfl⟩:=G;cases hs
  ·cases X with
   |nil=>simp at C;exact .inl C.2
   |cons j X=>simp at C;exact .inr ⟨X,C.2⟩
 |go hs hr ih=>
  rename_i k i K n d E o r R
  intro L m F h G
  rcases G with G|⟨X,C⟩
  ·simp at G;obtain ⟨rfl,rfl⟩:=G;cases hs;cases hr;cases h
  ·cases X with
   |nil=>
    simp at C;obtain ⟨rfl,rfl⟩:=C;simp only [It.step,Fl.step] at hs
    split at hs <;> cases hs
   |cons j X=>
    simp at C;obtain ⟨rfl,rfl⟩:=C;exact ih h (.inr ⟨r++X,by simp⟩)
theorem lR (h:sf N T K p s v) (H:IR K) (O:Rb T ci (eI 1 (un N)) dz):dz.i=T.length/\(K.length=1->dz.e=0/\dz.v=v)/\(K.length≠1->dz.e=121):=by
 obtain ⟨Q,M⟩:=h [];have G:Rb (T++[]) ci (eI 1 (un N)) dz:=by rw [TG];exact O
 have C:=ym G M;obtain ⟨a,b,c⟩:=JV C rfl Az;obtain ⟨c1,c2,c3⟩:=qt (n:=1) (d:=dz);rw [c2] at b;refine ⟨b,?_⟩
 rcases H with rfl|⟨X,rfl⟩
 ·refine ⟨fun _=>?_,fun h=>absurd rfl h⟩;cases C with
  |step h4=>
   have I:=JU h4;have J:dz.e=0:=by rw [<-c1,I];rfl
   refine ⟨J,?_⟩;have F:=Tm D.v I;unfold nr at F;rw [IO J] at F;exact List.append_cancel_right F
 ·refine ⟨fun h=>by simp at h,fun _=>?_⟩;have:=Cm aC C rfl X [.lv 1] rfl rfl Az;rw [c1] at this c;exact c.resolve_left this
end
end Go.Proofs.YtcjiapphbpiffaaGreatDoor
