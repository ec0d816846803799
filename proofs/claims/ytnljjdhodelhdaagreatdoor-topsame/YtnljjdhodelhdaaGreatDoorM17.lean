import Derived.Test.YtnljjdhodelhdaaGreatDoorM16
set_option linter.unusedVariables false
set_option linter.unusedSimpArgs false
namespace Go.Proofs.YtnljjdhodelhdaaGreatDoor
open Go.RowKit
variable {r K':List It}{n code q:Int}{k:Nat}{E o:List Ev}{i:It}{L:List Tv}{d d':D}{m:M}{ts:List ByteArray}
theorem jg {t:Tv}(hs:It.step t i=.ref) {k:Nat}{K:List It}{n:Int}{E:List Ev}{R:Ro}(h:Ru t k (i :: K) n E R):R=.no:=by
 cases h with
 |ref _=>rfl
 |tk h=>rw [hs] at h;cases h
 |go h _=>rw [hs] at h;cases h
theorem mX {t:Tv}(h:Fl.takes t (.wd q ts)=false):It.step t (.fl (.wd q ts))=.ref:=by
 simp [It.step,Fl.step,h]
theorem DO {t:Tv}{d:Int}(hs:It.step t i=.go d o (.fl (.wd q ts) :: r)) (hq:(t.k == q)=false) {k:Nat}{K:List It}{n:Int}{E:List Ev}{R:Ro}(h:Ru t k (i :: K) n E R):R=.no:=by
 cases h with
 |ref _=>rfl
 |tk h=>rw [hs] at h;cases h
 |go h hr=>
  rw [hs] at h;cases h;exact jg (mX (by simp [Fl.takes,hq])) hr
theorem uF {t:Tv}{k:Dk}(hm:k.pick t=some m) (hk:(t.k == k.kd)=false) {j:Nat}{K:List It}{n:Int}{E:List Ev}{R:Ro}(h:Ru t j (.fl (.mt m) :: K) n E R):R=.no:=by
 cases k <;> simp only [Dk.pick] at hm <;> simp only [Dk.kd] at hk
 all_goals (repeat' (split at hm))
 all_goals first
  | (cases hm;done)
  | (cases hm;exact DO rfl hk h)
theorem jk (he:d.e=0):eu n d=lF d [⟨1,n,aC⟩]:=by
 unfold eu;rw [IO he];rfl
theorem Av {n:Int}{d:D}(he:d.e=0):mT n d=lF d [⟨3,n,aC⟩]:=by
 unfold mT;rw [IO he];rfl
theorem wh {t:Tv}(h1:m≠.kind) (h2:m≠.statement):cJ (some t) m=M.row t m:=by
 cases m <;> first|rfl|exact absurd rfl h1|exact absurd rfl h2
theorem mg (s:ByteArray):cf s=.ref\/∃nd r,cf s=.op nd (.fl (.wd 2 [s]) :: r):=by
 unfold cf
 repeat' split
 all_goals first
  |exact .inl rfl
  |exact .inr ⟨_,_,rfl⟩
theorem gI {t:Tv}(hn:cP L d=some t) {m:M}{dn:Int}{o:List Ev}{r:List It}(hs:It.step t (.fl (.mt m))=.go dn o r) (he:cJ (some t) m=M.row t m):dst L (.fl (.mt m)) d=(r,lF d o):=by
 have hz:=(eM hn).1;simp only [dst,hn,he];simp only [It.step,Fl.step] at hs;cases hr:M.row t m with
 |ref=>rw [hr] at hs;cases hs
 |ex r'=>rw [hr] at hs;cases hs;simp only [iA]
 |op nd r'=>rw [hr] at hs;cases hs;simp only [jk hz]
theorem qU {t:Tv}{p:Pk}:bz (some t) p=Pk.pick t p\/∃k m,p=.fn k/\k.pick t=some m/\(t.k == k.kd)=false/\bz (some t) p=none:=by
 cases p with
 |fn k=>
  simp only [bz,Pk.pick]
  by_cases h:(t.k == k.kd)=true
  ·exact .inl (IO h)
  ·have h':(t.k == k.kd)=false:=by simpa using h
   rw [Eq h];cases hp:k.pick t with
   |none=>exact .inl rfl
   |some m=>exact .inr ⟨k,m,rfl,hp,h',rfl⟩
 |row r=>exact .inl rfl
 |ex m=>exact .inl rfl
theorem GA {t:Tv}{k:Dk}(hm:k.pick t=some m) (hk:(t.k == k.kd)=false):bad k t:=by
 refine ⟨hk,fun e=>?_⟩;subst e;simp only [Dk.pick] at hm;cases h1:t.is [91] with
 |true=>rfl
 |false=>
  cases h2:t.is [46] with
  |true=>rfl
  |false=>
   cases h3:t.is [40] with
   |true=>rfl
   |false=>rw [h1,h2,h3] at hm;cases hm
theorem Du {t:Tv}(hn:cP L d=some t) {i:It}{dn:Int}{o:List Ev}{r:List It}(hs:It.step t i=.go dn o r) :
  dst L i d=(r,lF d o)\/((∀k K n E R,Ru t k (r++K) n E R->R=.no)/\(∀K,nw (i :: K)=true->j8 L (i :: K) d)):=by
 have hz:=(eM hn).1;cases i with
 |fl x=>
  cases x with
  |mt m=>
   by_cases h1:m=.kind
   ·subst h1
    by_cases k1:(t.k == 1)=true
    ·refine .inl (gI hn hs ?_);have hk:t.k=1:=by simpa using k1
     simp [cJ,M.row,wk,hk]
    ·have k1':(t.k == 1)=false:=by simpa using k1
     by_cases k2:(t.k == 2)=true
     ·have a1:wk 2 ⟨#[97,114,114,97,121]⟩ t=t.is [97,114,114,97,121]:=by rw [qC,k2,show (ByteArray.mk #[97,114,114,97,121]).toList=[97,114,114,97,121] by decide +kernel];rfl
      have a2:wk 2 ⟨#[114,101,99,111,114,100]⟩ t=t.is [114,101,99,111,114,100]:=by rw [qC,k2,show (ByteArray.mk #[114,101,99,111,114,100]).toList=[114,101,99,111,114,100] by decide +kernel];rfl
      by_cases b1:t.is [97,114,114,97,121]=true
      ·refine .inl (gI hn hs ?_);simp [cJ,M.row,a1,b1,k1']
      ·by_cases b2:t.is [114,101,99,111,114,100]=true
       ·refine .inl (gI hn hs ?_);simp [cJ,M.row,a1,a2,b1,b2,k1']
       ·simp [It.step,Fl.step,M.row,k1',b1,b2,Gw.sr] at hs
     ·have k2':(t.k == 2)=false:=by simpa using k2
      have a1:wk 2 ⟨#[97,114,114,97,121]⟩ t=false:=by simp only [wk,k2',Tp]
      have a2:wk 2 ⟨#[114,101,99,111,114,100]⟩ t=false:=by simp only [wk,k2',Tp]
      refine .inr ⟨?_,fun K _=>?_⟩
      ·intro k K n E R hR
       by_cases b1:t.is [97,114,114,97,121]=true
       ·simp only [It.step,Fl.step,M.row,k1',b1,Rp,R7,SY,Gw.sr] at hs;cases hs;exact jg (mX (by simp [Fl.takes,k2'])) hR
       ·by_cases b2:t.is [114,101,99,111,114,100]=true
        ·simp only [It.step,Fl.step,M.row,k1',b1,b2,Rp,R7,SY,Gw.sr] at hs;cases hs;exact jg (mX (by simp [Fl.takes,k2'])) hR
        ·simp [It.step,Fl.step,M.row,k1',b1,b2,Gw.sr] at hs
      ·have e:dst L (.fl (.mt .kind)) d=([.fl .nm,.lv 8],eu 8 d):=by
        simp only [dst,hn,cJ,Option.elim,a1,a2,Rp,R7];rfl
       refine j8.step ?_ ?_
       ·rw [e];refine sf (t:=t) ?_ cU (by simp [Fl.takes,k1']);rw [jk hz];exact hn
       ·rw [e,jk hz];rfl
   ·by_cases h2:m=.statement
    ·subst h2
     by_cases k1:(t.k == 1)=true
     ·refine .inl (gI hn hs ?_);simp [cJ,M.row,k1]
     ·have k1':(t.k == 1)=false:=by simpa using k1
      by_cases k2:(t.k == 2)=true
      ·refine .inl (gI hn hs ?_);simp [cJ,M.row,k1',k2]
      ·have k2':(t.k == 2)=false:=by simpa using k2
       refine .inr ⟨?_,fun K _=>?_⟩
       ·intro k K n E R hR;simp only [It.step,Fl.step,M.row,k1',Rp,R7] at hs
        rcases mg t.t with e|⟨nd,r',e⟩
        ·rw [e] at hs;cases hs
        ·rw [e] at hs;cases hs;exact jg (mX (by simp [Fl.takes,k2'])) hR
       ·have e:dst L (.fl (.mt .statement)) d=([],eU L false d):=by
         simp only [dst,hn,cJ,k1',k2',Rp,R7]
        refine ⟨K,eU L false d,?_,?_,.inl ?_⟩
        ·refine .step ?_;rw [e];exact .refl
        ·simp [eU,hz,(eM hn).2.2]
        ·simp [eU,hz,(eM hn).2.2]
    ·exact .inl (gI hn hs (wh h1 h2))
  |_=>
   simp only [It.step,Fl.step] at hs
   split at hs <;> cases hs
 |lv n=>
  cases hs;exact .inl (by simp only [dst,Av (n:=n) hz])
 |all r=>cases hs;exact .inl (by rw [iA];rfl)
 |once p=>
  rcases qU (t:=t) (p:=p) with e|⟨k,m,rfl,hm,hk,e⟩
  ·cases hs;refine .inl ?_;simp only [dst,hn,e,iA]
  ·refine .inr ⟨?_,fun K hK=>?_⟩
   ·intro j K n E R hR;simp only [It.step,Pk.pick,hm,Tb,Option.toList] at hs;cases hs;exact uF hm hk hR
   ·have hK':=ny hK;refine j8.step ?_ rfl;simp only [dst,hn,e];exact rV (GA hm hk) K d (hK'.2.2.2 k rfl) hn
 |again p=>
  rcases qU (t:=t) (p:=p) with e|⟨k,m,rfl,hm,hk,e⟩
  ·cases hs;refine .inl ?_;simp only [dst,hn,e,iA]
  ·refine .inr ⟨?_,fun K hK=>?_⟩
   ·intro j K n E R hR;simp only [It.step,Pk.pick,hm,Tb,GV] at hs;cases hs;exact uF hm hk hR
   ·have hK':=ny hK;refine j8.step ?_ rfl;simp only [dst,hn,e];exact rV (GA hm hk) K d (hK'.2.2.2 k rfl) hn
theorem PO {t:Tv}{L:List Tv}{k:Nat}{K:List It}{n:Int}{E:List Ev}{R:Ro}(h:Ru t k K n E R):∀(d:D),cP L d=some t->nw K=true ->
  (∀K2 m F,R=.yes K2 m F->nw K2=true/\∃x o,F=E++o/\(∀m,x≠Fl.mt m)/\x.takes t=true/\lY L K d (.fl x :: K2) (lF d o))/\(R=.no->j8 L K d):=by
 induction h with
 |nil=>
  intro d hn _;exact ⟨(fun K2 m F e=>by cases e),fun _=>⟨[],d,.refl,rfl,.inr ⟨rfl,(eM hn).1⟩⟩⟩
 |ref hs=>
  rename_i i K n E
  intro d hn hw;refine ⟨(fun K2 m F e=>by cases e),fun _=>?_⟩;cases i with
  |fl x=>
   by_cases hx:∃m,x=.mt m
   ·obtain ⟨m,rfl⟩:=hx;have hz:=(eM hn).1
    have fin:cJ (some t) m=.ref->j8 L (.fl (.mt m) :: K) d:=fun e=>by
     refine ⟨K,eU L false d,?_,by simp [eU,hz,(eM hn).2.2],.inl (by simp [eU,hz,(eM hn).2.2])⟩;refine .step ?_;simp only [dst,hn,e];exact .refl
    by_cases h1:m=.kind
    ·subst h1;simp only [It.step,Fl.step,M.row] at hs
     by_cases k1:(t.k == 1)=true
     ·rw [IO k1] at hs;cases hs
     rw [Eq k1] at hs
     by_cases b1:t.is [97,114,114,97,121]=true
     ·rw [IO b1] at hs;cases hs
     rw [Eq b1] at hs
     by_cases b2:t.is [114,101,99,111,114,100]=true
     ·rw [IO b2] at hs;cases hs
     have a1:wk 2 ⟨#[97,114,114,97,121]⟩ t=false:=by
      rw [qC,show (ByteArray.mk #[97,114,114,97,121]).toList=[97,114,114,97,121] by decide +kernel];have:(t.t.toList == [97,114,114,97,121])=false:=by simpa [Tv.is] using b1
      rw [this,S4]
     have a2:wk 2 ⟨#[114,101,99,111,114,100]⟩ t=false:=by
      rw [qC,show (ByteArray.mk #[114,101,99,111,114,100]).toList=[114,101,99,111,114,100] by decide +kernel];have:(t.t.toList == [114,101,99,111,114,100])=false:=by simpa [Tv.is] using b2
      rw [this,S4]
     have e:dst L (.fl (.mt .kind)) d=([.fl .nm,.lv 8],eu 8 d):=by
      simp only [dst,hn,cJ,Option.elim,a1,a2,Rp,R7];rfl
     refine j8.step ?_ ?_
     ·rw [e];refine sf (t:=t) ?_ cU (by simpa [Fl.takes] using k1);rw [jk hz];exact hn
     ·rw [e,jk hz];rfl
    ·by_cases h2:m=.statement
     ·subst h2;refine fin ?_;simp only [It.step,Fl.step,M.row] at hs
      by_cases k1:(t.k == 1)=true
      ·rw [IO k1] at hs;cases hs
      rw [Eq k1] at hs;simp only [cJ,Eq k1]
      split
      ·rcases mg t.t with e|⟨nd,r',e⟩
       ·exact e
       ·rw [e] at hs;cases hs
      ·rfl
     ·refine fin ?_;rw [wh h1 h2];simp only [It.step,Fl.step] at hs;cases hr:M.row t m with
      |ref=>rfl
      |ex r=>rw [hr] at hs;cases hs
      |op nd r=>rw [hr] at hs;cases hs
   ·refine sf hn (fun m e=>hx ⟨m,e⟩) ?_;cases x with
    |mt m=>exact absurd ⟨m,rfl⟩ hx
    |_=>
     simp only [It.step,Fl.step] at hs
     split at hs
     ·cases hs
     ·rename_i h;simpa using h
  |_=>cases hs
 |tk hs=>
  rename_i i K n E
  intro d hn hw;refine ⟨fun K2 m F e=>?_,(fun e=>by cases e)⟩;cases e;refine ⟨(ny hw).1,?_⟩;cases i with
  |fl x=>
   have hx:∀m,x≠.mt m:=by
    intro m e;subst e;simp only [It.step,Fl.step] at hs;cases hr:M.row t m <;> rw [hr] at hs <;> cases hs
   refine ⟨x,[],by simp,hx,?_,by rw [iA];exact .refl⟩;cases x with
   |mt m=>exact absurd rfl (hx m)
   |_=>
    simp only [It.step,Fl.step] at hs
    split at hs
    ·rename_i h;exact h
    ·cases hs
  |_=>cases hs
 |go hs hr ih=>
  rename_i k i K n dn E o r R
  intro d hn hw
  rcases Du hn hs with e|⟨e1,e2⟩
  ·have hw':=Nj (L:=L) (d:=d) hw;have hn':cP L (lF d o)=some t:=hn;rw [e] at hw';obtain ⟨h1,h2⟩:=ih (lF d o) hn' hw';refine ⟨fun K2 m F eR=>?_,fun eR=>?_⟩
   ·obtain ⟨a,x,o2,b,c,f,g⟩:=h1 K2 m F eR;refine ⟨a,x,o++o2,by rw [b,QW],c,f,.step ?_⟩;rw [e,<-Ea];exact g
   ·refine j8.step ?_ (by rw [e];rfl);rw [e];exact h2 eR
  ·have:=e1 _ _ _ _ _ hr;subst this;exact ⟨(fun K2 m F e=>by cases e),fun _=>e2 K hw⟩
inductive lZ|live (K:List It) (n:Int)|stuck (e n:Int)|shut
def beg (K:List It) (n:Int):List It:=if n == 0 then cd++.lv 1 :: K else K
def gk (n:Int):Int:=if n == 0 then 1 else n
def bN (n:Int):List Ev:=if n == 0 then [⟨1,1,aC⟩] else []
inductive jG (t:Tv):lZ->List Ev->Int->lZ->Prop
 |shut:jG t .shut [] 4 .shut
 |stuck {e n:Int}:jG t (.stuck e n) [] e (.stuck e n)
 |note {K:List It} {n:Int}:(t.k == 7 || t.k == 8)=true->jG t (.live K n) (bN n++[⟨4,0,t⟩]) 0 (.live (beg K n) (gk n))
 |no {K:List It} {n:Int} {k:Nat}:(t.k == 7 || t.k == 8)=false->Ru t k (beg K n) (gk n) (bN n) .no->k<=(beg K n).length+20->jG t (.live K n) [] 120 (.stuck 120 n)
 |deep {K L:List It} {n m:Int} {E:List Ev} {k:Nat}:(t.k == 7 || t.k == 8)=false->Ru t k (beg K n) (gk n) (bN n) (.yes L m E)->k<=(beg K n).length+20->1000<m->jG t (.live K n) [] 122 (.stuck 122 n)
 |yes {K L:List It} {n m:Int} {E:List Ev} {k:Nat}:(t.k == 7 || t.k == 8)=false->Ru t k (beg K n) (gk n) (bN n) (.yes L m E)->k<=(beg K n).length+20->m<=1000->jG t (.live K n) (E++[⟨2,0,t⟩]) 0 (.live L m)
structure Lz (K:List It) (n:Int):Prop where
 wf:jR K
 lv:((bM K).length:Int)=n
 sn:(bM K).length<=5000000
 sk:K.length<=500000
inductive wR:lZ->List Ev->Int->Prop
 |shut:wR .shut [] 4
 |stuck {e n:Int}:wR (.stuck e n) [] e
 |all {K:List It} {n:Int}:K.length=1->wR (.live K n) [⟨3,1,aC⟩] 0
 |open {K:List It} {n:Int}:K.length≠1->wR (.live K n) [] 121
def Fl.ht:Fl->Nat
 |.mt .typed=>5
 |.mt .list=>3
 |_=>1
def rh:List Fl->Nat
 |[]=>0
 |x :: r=>max (x.ht+r.length) (rh r)
def Pk.ht:Pk->Nat
 |.row r=>rh r
 |.fn _=>1
 |.ex m=>(Fl.mt m).ht
def It.ht:It->Nat
 |.fl x=>x.ht
 |.lv _=>0
 |.once p=>max 1 p.ht
 |.again p=>1+max 1 p.ht
 |.all r=>max 1 (rh r)
def wC:List It->Nat
 |[]=>0
 |.lv _ :: _=>0
 |_ :: K=>1+wC K
def fb:List It->Prop
 |[]=>True
 |.lv _ :: K=>fb K
 |i :: K=>i.ht+wC K<=15/\fb K
theorem Fl.ht_pos (x:Fl):1<=x.ht:=by
 cases x with
 |mt m=>cases m <;> decide
 |_=>exact gt _
theorem It.ht_pos (i:It) (h:∀n,i≠.lv n):1<=i.ht:=by
 cases i with
 |fl x=>exact x.ht_pos
 |lv n=>exact absurd rfl (h n)
 |once p=>simp only [It.ht];omega
 |again p=>simp only [It.ht];omega
 |all r=>simp only [It.ht];omega
theorem kS (h:∀n,i≠.lv n) (K:List It):wC (i :: K)=1+wC K:=by
 cases i with
 |lv n=>exact absurd rfl (h n)
 |_=>rfl
theorem fg (h:∀n,i≠.lv n) (K:List It):fb (i :: K)↔i.ht+wC K<=15/\fb K:=by
 cases i with
 |lv n=>exact absurd rfl (h n)
 |_=>exact Iff.rfl
theorem x9:∀{K:List It},fb K->wC K<=15
 |[],_=>QU _
 |i :: K,h=>by
  by_cases hl:∃n,i=.lv n
  ·obtain ⟨n,rfl⟩:=hl;exact QU _
  ·have hn:∀n,i≠.lv n:=fun n e=>hl ⟨n,e⟩
   have h1:=((fg hn K).1 h).1;have:=i.ht_pos hn;rw [kS hn];omega
theorem s9:∀{K:List It},fb K->K.length<=16*(bM K).length+wC K
 |[],_=>QU _
 |i :: K,h=>by
  by_cases hl:∃n,i=.lv n
  ·obtain ⟨n,rfl⟩:=hl;have h':fb K:=h;have:=s9 h';have:=x9 h';simp [bM,wC];omega
  ·have hn:∀n,i≠.lv n:=fun n e=>hl ⟨n,e⟩
   have:=s9 ((fg hn K).1 h).2
   have e:bM (i :: K)=bM K:=by
    cases i with
    |lv n=>exact absurd rfl (hn n)
    |_=>rfl
   rw [kS hn,e];simp;omega
theorem M6 (r:List Fl) (K:List It) (h:rh r+wC K<=15) (hK:fb K):fb (r.map It.fl++K)/\wC (r.map It.fl++K)=r.length+wC K:=by
 induction r with
 |nil=>exact ⟨hK,by simp⟩
 |cons x r ih=>
  simp only [rh] at h;obtain ⟨h1,h2⟩:=ih (by omega);refine ⟨(fg (fun n e=>by cases e) _).2 ⟨?_,h1⟩,?_⟩
  ·show x.ht+wC (r.map It.fl++K)<=15
   rw [h2];omega
  ·show wC (.fl x :: (r.map It.fl++K))=_
   rw [kS (fun n e=>by cases e),h2,List.length_cons];omega
theorem zv {t:Tv}{p:Pk}(h:Pk.pick t p=some i):i.ht<=max 1 p.ht/\∀n,i≠.lv n:=by
 cases p with
 |fn d=>
  simp only [Pk.pick,Rv] at h;obtain ⟨m,hm,rfl⟩:=h;have:=nT hm;refine ⟨?_,fun n e=>by cases e⟩
  rcases this with rfl|rfl|rfl|rfl|rfl|rfl|rfl <;> exact gt 1
 |row r=>
  simp only [Pk.pick] at h
  split at h
  ·cases h;exact ⟨gt _,fun n e=>by cases e⟩
  ·cases h
 |ex m=>
  simp only [Pk.pick] at h
  split at h
  ·cases h
  ·cases h;exact ⟨by show (Fl.mt m).ht<=max 1 (Fl.mt m).ht;omega,fun n e=>by cases e⟩
def Gw.fb (m:M):Gw->Prop
 |.ref=>True
 |.ex r=>∀K,(Fl.mt m).ht+wC K<=15->Go.Proofs.YtnljjdhodelhdaaGreatDoor.fb K->Go.Proofs.YtnljjdhodelhdaaGreatDoor.fb (r++K)
 |.op nd r=>∀K,Go.Proofs.YtnljjdhodelhdaaGreatDoor.fb K->Go.Proofs.YtnljjdhodelhdaaGreatDoor.fb (r++.lv nd :: K)
theorem Mj (t:Tv) (m:M):(M.row t m).fb m:=by
 cases m <;> simp only [M.row,cf] <;> (repeat' split) <;> simp [Gw.fb,fb,wC,It.ht,Fl.ht,Pk.ht,rh]
 all_goals (intro K h1 h2;simp only [h2,and_true];omega)
theorem rQ {t:Tv}{d:Int}{K:List It}(h:It.step t i=.go d o r) (hf:fb (i :: K)):fb (r++K):=by
 cases i with
 |fl x=>
  obtain ⟨h1,h2⟩:=(fg (fun n e=>by cases e) K).1 hf
  have hm:∃m,x=.mt m:=by
   cases x with
   |mt m=>exact ⟨m,rfl⟩
   |_=>simp only [It.step,Fl.step] at h;split at h <;> cases h
  obtain ⟨m,rfl⟩:=hm;have hr:=Mj t m;simp only [It.step,Fl.step] at h;cases hrow:M.row t m with
  |ref=>rw [hrow] at h;cases h
  |ex r'=>rw [hrow] at h hr;cases h;exact hr K h1 h2
  |op nd r'=>rw [hrow] at h hr;cases h;rw [QW];exact hr K h2
 |lv n=>cases h;exact hf
 |once p=>
  obtain ⟨h1,h2⟩:=(fg (fun n e=>by cases e) K).1 hf;simp only [It.step] at h;cases hp:Pk.pick t p with
  |none=>rw [hp] at h;cases h;exact h2
  |some j=>
   rw [hp] at h;cases h;obtain ⟨a,b⟩:=zv hp;exact (fg b K).2 ⟨by simp only [It.ht] at h1;omega,h2⟩
 |again p=>
  have hn:∀n,It.again p≠.lv n:=fun n e=>by cases e
  obtain ⟨h1,h2⟩:=(fg hn K).1 hf;simp only [It.step] at h;cases hp:Pk.pick t p with
  |none=>rw [hp] at h;cases h;exact h2
  |some j=>
   rw [hp] at h;cases h;obtain ⟨a,b⟩:=zv hp;refine (fg b _).2 ⟨?_,hf⟩;show j.ht+wC (.again p :: K)<=15;rw [kS hn];simp only [It.ht] at h1;omega
 |all r'=>
  obtain ⟨h1,h2⟩:=(fg (fun n e=>by cases e) K).1 hf;cases h;exact (M6 r' K (by simp only [It.ht] at h1;omega) h2).1
def cF:List Int->List Ev->Option (List Int)
 |s,[]=>some s
 |s,e :: r=>if e.k=1 then cF (e.n :: s) r else if e.k=3 then (match s with|n :: s'=>if n=e.n then cF s' r else none|[]=>none) else cF s r
theorem dM:∀(a b:List Ev) (s s':List Int),cF s a=some s'->cF s (a++b)=cF s' b
 |[],b,s,s',h=>by cases h;rfl
 |e :: r,b,s,s',h=>by
  simp only [cF,RA] at h ⊢
  split
  ·rename_i h1;rw [IO h1] at h;exact dM r b _ _ h
  ·rename_i h1
   rw [Eq h1] at h
   split
   ·rename_i h2
    rw [IO h2] at h;cases s with
    |nil=>cases h
    |cons n s=>
     simp only at h ⊢
     split
     ·rename_i h3;rw [IO h3] at h;exact dM r b _ _ h
     ·rename_i h3;rw [Eq h3] at h;cases h
   ·rename_i h2;rw [Eq h2] at h;exact dM r b _ _ h
theorem ls {t:Tv}{i:It}{d:Int}{o:List Ev}{r K:List It}(h:It.step t i=.go d o r) (hi:i.wf):cF (bM (i :: K)) o=some (bM (r++K)):=by
 have hk:=fJ (K:=K) h hi;cases i with
 |fl x=>
  have hm:∃m,x=.mt m:=by
   cases x with
   |mt m=>exact ⟨m,rfl⟩
   |_=>simp only [It.step,Fl.step] at h;split at h <;> cases h
  obtain ⟨m,rfl⟩:=hm;have hr:=gX t m;simp only [It.step,Fl.step] at h;cases hrow:M.row t m with
  |ref=>rw [hrow] at h;cases h
  |ex r'=>rw [hrow] at h hr;cases h;rw [bP,hr.2.2];rfl
  |op nd r'=>rw [hrow] at h hr;cases h;rw [bP,bP,hr.2.2.1];rfl
 |lv n=>cases h;simp [cF,bM]
 |once p=>
  simp only [It.step] at h;cases hp:Pk.pick t p with
  |none=>rw [hp] at h;cases h;rfl
  |some j=>rw [hp] at h;cases h;show some (bM K)=some (bM ([j]++K));rw [bP,(nr hi hp).2];rfl
 |again p=>
  simp only [It.step] at h;cases hp:Pk.pick t p with
  |none=>rw [hp] at h;cases h;rfl
  |some j=>rw [hp] at h;cases h;show some (bM K)=some (bM ([j]++([.again p]++K)));rw [bP,(nr hi hp).2];rfl
 |all r'=>cases h;rw [bP,jU];rfl
structure Ok (K:List It) (n:Int):Prop where
 wf:jR K
 fb:fb K
 lv:((bM K).length:Int)=n
 le:n<=1000
theorem Ok.lz {K:List It}(h:Ok K n):Lz K n:=by
 have h1:=h.lv;have h2:=h.le;have h3:=s9 h.fb;have h4:=x9 h.fb;exact ⟨h.wf,h.lv,by omega,by omega⟩
theorem eF {t:Tv}{K:List It}{R:Ro}(h:Ru t k K n E R):∀{L:List It}{m:Int}{F:List Ev},R=.yes L m F->jR K->fb K->((bM K).length:Int)=n ->
  jR L/\fb L/\((bM L).length:Int)=m/\∃o,F=E++o/\cF (bM K) o=some (bM L)/\(∀e∈o,e.d=aC/\(e.k=1\/e.k=3)/\(e.k=1->e.n≠1))/\o.length<=k:=by
 induction h with
 |nil=>intro L m F h;cases h
 |ref _=>intro L m F h;cases h
 |tk hs=>
  rename_i i K n E
  intro L m F h hw hf hn;cases h;have hl:∀a,i≠.lv a:=fun a e=>by subst e;cases hs
  have e:bM (i :: K)=bM K:=by
   cases i with
   |lv a=>exact absurd rfl (hl a)
   |_=>rfl
  rw [e] at hn;exact ⟨fun j hj=>hw j (QZ _ hj),((fg hl K).1 hf).2,hn,[],by simp,by rw [e];rfl,fun x hx=>by simp at hx,QU _⟩
 |go hs _ ih=>
  rename_i k i K n d E o r R _
  intro L m F h hw hf hn;have hi:=hw i (QY ..);obtain ⟨a1,a2,a3,a4⟩:=fJ (K:=K) hs hi;obtain ⟨b1,b2,b3,o2,b4,b5,b6,b7⟩:=ih h (fH a1 (fun j hj=>hw j (QZ _ hj))) (rQ hs hf) (by omega);refine ⟨b1,b2,b3,o++o2,by rw [b4,QW],(dM o o2 _ _ (ls hs hi)).trans b5,?_,by simp;omega⟩;intro x hx
  rcases Rm.1 hx with hx|hx
  ·cases i with
   |fl y=>
    have hm:∃m,y=.mt m:=by
     cases y with
     |mt m=>exact ⟨m,rfl⟩
     |_=>simp only [It.step,Fl.step] at hs;split at hs <;> cases hs
    obtain ⟨mm,rfl⟩:=hm;have hr:=gX t mm;simp only [It.step,Fl.step] at hs;cases hrow:M.row t mm with
    |ref=>rw [hrow] at hs;cases hs
    |ex r'=>rw [hrow] at hs;cases hs;simp at hx
    |op nd r'=>rw [hrow] at hs hr;cases hs;simp at hx;subst hx;exact ⟨rfl,.inl rfl,fun _=>by have:=hr.2.2.2.1;show nd≠1;omega⟩
   |lv a=>cases hs;simp at hx;subst hx;exact ⟨rfl,.inr rfl,fun e=>by cases e⟩
   |once p=>cases hs;simp at hx
   |again p=>cases hs;simp at hx
   |all r'=>cases hs;simp at hx
  ·exact b6 x hx
theorem ME {K:List It}(h:Ok K n) (h0:n=0->K=[]):jR (beg K n)/\fb (beg K n)/\((bM (beg K n)).length:Int)=gk n/\cF (bM K) (bN n)=some (bM (beg K n))/\(beg K n).length<=20000:=by
 have hz:=h.lz;have h3:=s9 h.fb;have h4:=x9 h.fb;have h1:=h.lv;have h2:=h.le
 by_cases hn:n=0
 ·obtain rfl:=h0 hn;subst hn;refine ⟨?_,?_,rfl,rfl,by simp [beg,cd]⟩
  ·intro i hi;simp [beg,cd] at hi
   rcases hi with rfl|rfl|rfl|rfl|rfl|rfl <;> trivial
  ·simp [beg,cd,fb,It.ht,Fl.ht,wC]
 ·have hb:(n == 0)=false:=by simpa using hn
  simp only [beg,gk,bN,hb,Rp,R7];exact ⟨h.wf,h.fb,h.lv,rfl,by omega⟩
def NX (K:List It):Prop:=∃X,K=X++[.lv 1]
theorem oL {t:Tv}{K:List It}{R:Ro}(h:Ru t k K n E R):∀{L:List It}{m:Int}{F:List Ev},R=.yes L m F->NX K->NX L:=by
 induction h with
 |nil=>intro L m F h;cases h
 |ref _=>intro L m F h;cases h
 |tk hs=>
  rename_i i K n E
  intro L m F h hb;cases h;obtain ⟨X,hX⟩:=hb;cases X with
  |nil=>simp at hX;obtain ⟨rfl,rfl⟩:=hX;cases hs
  |cons j X=>simp at hX;exact ⟨X,hX.2⟩
 |go hs hr ih=>
  rename_i k i K n d E o r R
  intro L m F h hb;obtain ⟨X,hX⟩:=hb;cases X with
  |nil=>
   simp at hX;obtain ⟨rfl,rfl⟩:=hX;cases hs;cases hr;cases h
  |cons j X=>
   simp at hX;obtain ⟨rfl,rfl⟩:=hX;exact ih h ⟨r++X,by simp⟩
theorem iW {K:List It}(h:NX K):1<=(bM K).length:=by
 obtain ⟨X,rfl⟩:=h;rw [bP];simp [bM]
def gi:lZ->Prop
 |.live K n=>Ok K n/\((n=0/\K=[])\/NX K)
 |.stuck e n=>e=120\/e=122
 |.shut=>True
theorem dO:gi (.live [] 0):=⟨⟨gU,trivial,rfl,by decide⟩,.inl ⟨rfl,rfl⟩⟩
def lZ.path:lZ->List Int
 |.live K _=>bM K
 |_=>[]
theorem cI {K:List It}(h:gi (.live K n)):jR (beg K n)/\fb (beg K n)/\((bM (beg K n)).length:Int)=gk n/\cF (bM K) (bN n)=some (bM (beg K n))/\(beg K n).length<=20000/\NX (beg K n)/\gk n<=1000/\(bN n).length<=1:=by
 have hn0:n=0->K=[]:=by
  intro e
  rcases h.2 with h2|h2
  ·exact h2.2
  ·have:=iW h2;have:=h.1.lv;omega
 obtain ⟨b1,b2,b3,b4,b5⟩:=ME h.1 hn0;have hle:=h.1.le;refine ⟨b1,b2,b3,b4,b5,?_,by unfold gk;split <;> omega,by unfold bN;split <;> simp⟩
 by_cases e:n=0
 ·obtain rfl:=hn0 e;subst e;exact ⟨cd,by simp [beg]⟩
 ·rcases h.2 with h2|h2
  ·exact absurd h2.1 e
  ·have hb:(n == 0)=false:=by simpa using e
   simp only [beg,hb,Rp,R7];exact h2
theorem dL {st st':lZ}{t:Tv}{ev:List Ev}(h:gi st) (hp:jG t st ev code st'):gi st'/\ev.length<=30000/\(code=0->∃K n,st'=.live K n/\NX K)/\(code=0->cF st.path ev=some st'.path):=by
 cases hp with
 |shut=>exact ⟨trivial,by simp,fun h=>(by cases h),fun h=>(by cases h)⟩
 |stuck=>exact ⟨h,by simp,fun h0=>(by subst h0;rcases h with h|h <;> cases h),fun h0=>(by subst h0;rcases h with h|h <;> cases h)⟩
 |note hc=>
  obtain ⟨b1,b2,b3,b4,b5,hbot,hbn,hbe⟩:=cI h;refine ⟨⟨⟨b1,b2,b3,hbn⟩,.inr hbot⟩,by simp;omega,fun _=>⟨_,_,rfl,hbot⟩,fun _=>?_⟩;refine (dM _ _ _ _ b4).trans ?_;simp [cF];rfl
 |no hc hR hk=>exact ⟨.inl rfl,by simp,fun h=>(by cases h),fun h=>(by cases h)⟩
 |deep hc hR hk hm=>exact ⟨.inr rfl,by simp,fun h=>(by cases h),fun h=>(by cases h)⟩
 |yes hc hR hk hm=>
  obtain ⟨b1,b2,b3,b4,b5,hbot,hbn,hbe⟩:=cI h;obtain ⟨c1,c2,c3,o,c4,c5,c6,c7⟩:=eF hR rfl b1 b2 b3;have hL:=oL hR rfl hbot;refine ⟨⟨⟨c1,c2,c3,by omega⟩,.inr hL⟩,by rw [c4];simp;omega,fun _=>⟨_,_,rfl,hL⟩,fun _=>?_⟩;rw [c4,QW];refine (dM _ _ _ _ b4).trans ((dM _ _ _ _ c5).trans ?_);simp [cF];rfl
theorem Ms {st:lZ}(h:gi st) (t:Tv):∃ev code st',jG t st ev code st':=by
 cases st with
 |shut=>exact ⟨_,_,_,.shut⟩
 |stuck e n=>exact ⟨_,_,_,.stuck⟩
 |live K n=>
  obtain ⟨b1,b2,b3,b4,b5,hbot,hbn,hbe⟩:=cI h
  by_cases hc:(t.k == 7 || t.k == 8)=true
  ·exact ⟨_,_,_,.note hc⟩
  ·have hc':(t.k == 7 || t.k == 8)=false:=by simpa using hc
   obtain ⟨k,R,hk,hR⟩:=KY t (beg K n) b1 (gk n) (bN n);cases R with
   |no=>exact ⟨_,_,_,.no hc' hR hk⟩
   |yes L m F=>
    by_cases hm:1000<m
    ·exact ⟨_,_,_,.deep hc' hR hk hm⟩
    ·exact ⟨_,_,_,.yes hc' hR hk (by omega)⟩
theorem Gg (st:lZ):∃ev code,wR st ev code/\ev.length<=1:=by
 cases st with
 |live K n=>
  by_cases h:K.length=1
  ·exact ⟨_,_,.all h,by simp⟩
  ·exact ⟨_,_,.open h,by simp⟩
 |stuck e n=>exact ⟨_,_,.stuck,by simp⟩
 |shut=>exact ⟨_,_,.shut,by simp⟩
inductive gm:lZ->List Tv->List Ev->Int->Nat->Prop
 |nil {st:lZ} {ev:List Ev} {code:Int}:wR st ev code->gm st [] ev code 0
 |err {st st':lZ} {t:Tv} {l:List Tv} {ev:List Ev} {code:Int}:jG t st ev code st'->code≠0->gm st (t :: l) [] code 0
 |on {st st':lZ} {t:Tv} {l:List Tv} {ev E:List Ev} {code:Int} {k:Nat}:jG t st ev 0 st'->gm st' l E code k->gm st (t :: l) (ev++E) code (k+1)
theorem GS:∀(l:List Tv) (st:lZ),gi st->∃E code k,gm st l E code k
 |[],st,h=>by
  obtain ⟨ev,code,h1,_⟩:=Gg st;exact ⟨_,_,_,.nil h1⟩
 |t :: l,st,h=>by
  obtain ⟨ev,code,st',h1⟩:=Ms h t;have h2:=(dL h h1).1
  by_cases hc:code=0
  ·subst hc;obtain ⟨E,c,k,h3⟩:=GS l st' h2;exact ⟨_,_,_,.on h1 h3⟩
  ·exact ⟨_,_,_,.err h1 hc⟩
theorem gm.inv {st:lZ}{t:Tv}{l:List Tv}(h:gm st (t :: l) E code k):(∃ev st',jG t st ev code st'/\code≠0/\E=[]/\k=0)\/(∃ev st' E2 k2,jG t st ev 0 st'/\gm st' l E2 code k2/\E=ev++E2/\k=k2+1):=by
 cases h with
 |err h1 h2=>exact .inl ⟨_,_,h1,h2,rfl,rfl⟩
 |on h1 h2=>exact .inr ⟨_,_,_,_,h1,h2,rfl,rfl⟩
theorem gm.end {st:lZ}(h:gm st [] E code k):wR st E code/\k=0:=by
 cases h with
 |nil h1=>exact ⟨h1,rfl⟩
inductive wY (t:Tv):List It->Prop
 |fl {x:Fl} {K:List It}:wY t (.fl x :: K)
 |all {r:List Fl} {K:List It}:KX r->wY t (.all r :: K)
 |onceS {p:Pk} {i:It} {K:List It}:Pk.pick t p=some i->wY t (.once p :: K)
 |againS {p:Pk} {i:It} {K:List It}:Pk.pick t p=some i->wY t (.again p :: K)
 |onceN {p:Pk} {K:List It}:Pk.pick t p=none->wY t K->wY t (.once p :: K)
 |againN {p:Pk} {K:List It}:Pk.pick t p=none->wY t K->wY t (.again p :: K)
def Gw.cm (t:Tv):Gw->Prop
 |.ref=>True
 |.ex r=>∀K,wY t (r++K)
 |.op nd r=>∀K,wY t (r++K)
theorem Ge (t:Tv) (p:Pk) (x:Fl) (K:List It):wY t (.again p :: .fl x :: K):=by
 cases h:Pk.pick t p with
 |none=>exact .againN h .fl
 |some i=>exact .againS h
theorem Mk (t:Tv) (m:M):(M.row t m).cm t:=by
 cases m <;> simp only [M.row,cf] <;> (repeat' split)
 all_goals first
  |trivial
  | (intro K;exact .fl)
  | (intro K;exact Ge t _ _ _)
theorem uU {t:Tv}{p:Pk}(hp:p.wf) {i:It}(h:Pk.pick t p=some i) (K:List It):wY t (i :: K):=by
 cases p with
 |fn d=>
  simp only [Pk.pick,Rv] at h;obtain ⟨m,_,rfl⟩:=h;exact .fl
 |row r=>
  simp only [Pk.pick] at h
  split at h
  ·cases h;exact .all hp
  ·cases h
 |ex m=>
  simp only [Pk.pick] at h
  split at h
  ·cases h
  ·cases h;exact .fl
theorem uw {t:Tv}{d:Int}{K:List It}(h:It.step t i=.go d o r) (hi:i.wf) (hc:wY t (i :: K)):wY t (r++K)/\(∀e∈o,e.k=1)/\0<=d:=by
 cases i with
 |fl x=>
  have hm:∃m,x=.mt m:=by
   cases x with
   |mt m=>exact ⟨m,rfl⟩
   |_=>simp only [It.step,Fl.step] at h;split at h <;> cases h
  obtain ⟨m,rfl⟩:=hm;have hr:=Mk t m;simp only [It.step,Fl.step] at h;cases hrow:M.row t m with
  |ref=>rw [hrow] at h;cases h
  |ex r'=>rw [hrow] at h hr;cases h;exact ⟨hr K,fun e he=>by simp at he,by omega⟩
  |op nd r'=>rw [hrow] at h hr;cases h;rw [QW];exact ⟨hr _,fun e he=>by simp at he;subst he;rfl,by omega⟩
 |lv n=>cases hc
 |once p=>
  simp only [It.step] at h;cases hp:Pk.pick t p with
  |none=>
   rw [hp] at h;cases h;cases hc with
   |onceS h2=>rw [hp] at h2;cases h2
   |onceN _ h2=>exact ⟨h2,fun e he=>by simp at he,by omega⟩
  |some j=>rw [hp] at h;cases h;exact ⟨uU hi hp K,fun e he=>by simp at he,by omega⟩
 |again p=>
  simp only [It.step] at h;cases hp:Pk.pick t p with
  |none=>
   rw [hp] at h;cases h;cases hc with
   |againS h2=>rw [hp] at h2;cases h2
   |againN _ h2=>exact ⟨h2,fun e he=>by simp at he,by omega⟩
  |some j=>rw [hp] at h;cases h;exact ⟨uU hi hp _,fun e he=>by simp at he,by omega⟩
 |all r'=>
  cases h;obtain ⟨⟨k,ts,rest,rfl⟩,_⟩:=hi;exact ⟨.fl,fun e he=>by simp at he,by omega⟩
theorem DN {t:Tv}{K:List It}{R:Ro}(h:Ru t k K n E R):∀{L:List It}{m:Int}{F:List Ev},R=.yes L m F->jR K->wY t K->∃o,F=E++o/\(∀e∈o,e.k=1):=by
 induction h with
 |nil=>intro L m F h;cases h
 |ref _=>intro L m F h;cases h
 |tk hs=>intro L m F h _ _;cases h;exact ⟨[],by simp,fun e he=>by simp at he⟩
 |go hs _ ih=>
  rename_i k i K n d E o r R _
  intro L m F h hw hc;have hi:=hw i (QY ..);obtain ⟨a1,a2,a3⟩:=uw hs hi hc;obtain ⟨o2,b1,b2⟩:=ih h (fH (fJ (K:=K) hs hi).1 (fun j hj=>hw j (QZ _ hj))) a1;exact ⟨o++o2,by rw [b1,QW],fun e he=>(Rm.1 he).elim (a2 e) (b2 e)⟩
theorem DM {t:Tv}{K:List It}{R:Ro}(h:Ru t k K n E R):∀{L:List It}{m:Int}{F:List Ev},R=.yes L m F->jR K->∃c o,F=E++(c++o)/\(∀e∈c,e.k=3)/\(∀e∈o,e.k=1):=by
 induction h with
 |nil=>intro L m F h;cases h
 |ref _=>intro L m F h;cases h
 |tk hs=>intro L m F h _;cases h;exact ⟨[],[],by simp,fun e he=>by simp at he,fun e he=>by simp at he⟩
 |go hs hr ih=>
  rename_i k i K n d E o r R
  intro L m F h hw;have hi:=hw i (QY ..);have hw2:=fH (fJ (K:=K) hs hi).1 (fun j hj=>hw j (QZ _ hj))
  by_cases hl:∃a,i=.lv a
  ·obtain ⟨a,rfl⟩:=hl;cases hs;obtain ⟨c,o2,b1,b2,b3⟩:=ih h hw2;exact ⟨⟨3,a,aC⟩ :: c,o2,by rw [b1];simp,fun e he=>(Rz.1 he).elim (fun e1=>by rw [e1]) (b2 e),b3⟩
  ·
   by_cases hc:wY t (i :: K)
   ·obtain ⟨a1,a2,a3⟩:=uw hs hi hc;obtain ⟨o2,b1,b2⟩:=DN hr h hw2 a1;exact ⟨[],o++o2,by rw [b1];simp,fun e he=>by simp at he,fun e he=>(Rm.1 he).elim (a2 e) (b2 e)⟩
   ·have ho:o=[]:=by
     cases i with
     |fl x=>exact absurd .fl hc
     |lv a=>exact absurd ⟨a,rfl⟩ hl
     |once p=>cases hs;rfl
     |again p=>cases hs;rfl
     |all r'=>cases hs;rfl
    subst ho;obtain ⟨c,o2,b1,b2,b3⟩:=ih h hw2;exact ⟨c,o2,by rw [b1];simp,b2,b3⟩
def ij (t:Tv):Bool:=t.k == 7 || t.k == 8
theorem oI {t:Tv}{K:List It}{R:Ro}(h:Ru t k K n E R) :
  (R=.no->∀E',Ru t k K n E' .no)/\(∀L m F,R=.yes L m F->∃o,F=E++o/\∀E',Ru t k K n E' (.yes L m (E'++o))):=by
 induction h with
 |nil=>exact ⟨fun _ E'=>.nil,fun L m F e=>by cases e⟩
 |ref hs=>exact ⟨fun _ E'=>.ref hs,fun L m F e=>by cases e⟩
 |tk hs=>
  refine ⟨(fun e=>by cases e),fun L m F e=>?_⟩;cases e;exact ⟨[],by simp,fun E'=>by simpa using Ru.tk hs⟩
 |go hs hr ih=>
  refine ⟨fun e E'=>.go hs (ih.1 e _),fun L m F e=>?_⟩;obtain ⟨o2,rfl,h2⟩:=ih.2 L m F e;refine ⟨_,(QW ..),fun E'=>.go hs ?_⟩;rw [<-QW];exact h2 _
def tz (N:Nat->List Ev):D:=⟨0,[],0,[],0,[],N⟩
theorem Ll (N:Nat->List Ev):eu 1 (tz N)=⟨0,[(1,1)],1,[],0,[⟨1,1,aC⟩],N⟩:=rfl
theorem FQ {L:List Tv}{i:It}{d:D}(h:d.e≠0):(dst L i d).2=d:=by
 have hn:cP L d=none:=by unfold cP;rw [Eq h]
 have hq:∀f,qn L d f=false:=fun f=>by unfold qn;rw [hn];rfl
 have ht:eU L false d=d:=by simp [eU,h]
 cases i with
 |fl x=>
  cases x with
  |mt m=>
   simp only [dst];cases cJ (cP L d) m with
   |ref=>exact ht
   |ex r=>rfl
   |op nd r=>exact uZ h
  |_=>simp only [dst,hq];exact ht
 |lv n=>exact wF h
 |_=>rfl
theorem kx {K:List It}(h:lY L K d K' d') (he:d.e≠0):d'=d:=by
 induction h with
 |refl=>rfl
 |step _ ih=>
  rename_i i K K' d d' _
  have:=FQ (L:=L) (i:=i) he;rw [this] at ih;exact ih he
theorem Ak {L:List Tv}{i:It}{d:D}(he:d.e=0) (hn:cP L d=none):(dst L i d).2.l=d.l/\(dst L i d).2.i=d.i/\(((dst L i d).2.e=0/\cP L (dst L i d).2=none)\/(dst L i d).2.e=121):=by
 have hi:¬d.i<L.length:=by
  intro h;unfold cP at hn;rw [IO he,Pi h] at hn;cases hn
 have hq:∀f,qn L d f=false:=fun f=>by unfold qn;rw [hn];rfl
 have ht:eU L false d={ d with e:=121 }:=by simp [eU,he,hi]
 cases i with
 |fl x=>
  cases x with
  |mt m=>
   simp only [dst];cases cJ (cP L d) m with
   |ref=>simp only [ht];exact ⟨trivial,trivial,.inr trivial⟩
   |ex r=>exact ⟨rfl,rfl,.inl ⟨he,hn⟩⟩
   |op nd r=>
    simp only;rw [jk he];exact ⟨rfl,rfl,.inl ⟨he,hn⟩⟩
  |_=>simp only [dst,hq,ht];exact ⟨trivial,trivial,.inr trivial⟩
 |lv n=>
  simp only [dst];rw [Av (n:=n) he];exact ⟨rfl,rfl,.inl ⟨he,hn⟩⟩
 |_=>exact ⟨rfl,rfl,.inl ⟨he,hn⟩⟩
theorem IK {K:List It}(h:lY L K d K' d') (he:d.e=0) (hn:cP L d=none):d'.l=d.l/\d'.i=d.i/\(d'.e=0\/d'.e=121):=by
 induction h with
 |refl=>exact ⟨rfl,rfl,.inl he⟩
 |step hr ih=>
  rename_i i K K' d d'
  obtain ⟨a,b,c⟩:=Ak (i:=i) he hn
  rcases c with ⟨c1,c2⟩|c
  ·grind
  ·have:=kx hr (by rw [c];decide);rw [this];exact ⟨a,b,.inr c⟩
theorem Bs {x:Fl}(hx:∀m,x≠.mt m) {K K':List It}{d d':D}(h:lY L K d K' d'):K'=[]->∀(X Y:List It),K=X++.fl x :: Y->d.e=0->cP L d=none->d'.e≠0:=by
 induction h with
 |refl=>intro e X Y e2;rw [e] at e2;cases X <;> cases e2
 |step hr ih=>
  rename_i i K K' d d'
  intro e X Y e2 he hn;obtain ⟨a,b,c⟩:=Ak (i:=i) he hn
  rcases c with ⟨c1,c2⟩|c
  ·cases X with
   |nil=>
    simp at e2;obtain ⟨rfl,rfl⟩:=e2
    exfalso
    have e3:dst L (.fl x) d=([],eU L (qn L d (fun t=>x.takes t)) d):=by
     cases x with
     |mt m=>exact absurd rfl (hx m)
     |_=>rfl
    rw [e3] at c1;have hq:qn L d (fun t=>x.takes t)=false:=by unfold qn;rw [hn];rfl
    rw [hq] at c1;exact absurd (oy c1).1 (by decide)
   |cons j X=>
    simp at e2;obtain ⟨rfl,rfl⟩:=e2;exact ih e ((dst L i d).1++X) Y (by simp) c1 c2
  ·have:=kx hr (by rw [c];decide);rw [this,c]
   decide
def rF (N:Nat->List Ev) (T:List Tv) (K:List It) (p:List (Int × Nat)) (s:Nat) (v:List Ev):Prop:=∀R,∃lst,lY (T++R) (cd++[.lv 1]) (eu 1 (tz N)) K ⟨T.length,p,s,lst,0,v,N⟩
theorem ru (N:Nat->List Ev):rF N [] (cd++[.lv 1]) [(1,1)] 1 [⟨1,1,aC⟩]:=fun R=>⟨[],.refl⟩
section
variable {N:Nat->List Ev} {T R:List Tv} {K:List It} {p:List (Int × Nat)} {s:Nat} {l:List (Int × Nat)} {v:List Ev} {t:Tv} {dz:D}
theorem sD:cP (T++t :: R) ⟨T.length,p,s,l,0,v,N⟩=some t:=by simp [cP]
theorem zz:cP (T++[]) ⟨T.length,p,s,l,0,v,N⟩=none:=by simp [cP]
theorem xA (h:Rb L cd (eu 1 (tz N)) dz) {K:List It}{d:D}(h':lY L (cd++[.lv 1]) (eu 1 (tz N)) K d):lY L K d [] (mT 1 dz):=h'.det ((h [.lv 1]).trans (.step .refl))
theorem pX {n:Int}{d:D}:(mT n d).e=d.e/\(mT n d).i=d.i/\(mT n d).l=d.l:=by unfold mT;split <;> exact ⟨rfl,rfl,rfl⟩
theorem Mp (h:rF N T K p s v) (hw:nw K=true) {k:Nat}{n:Int}{E:List Ev}(hr:Ru t k K n E .no) (hb:Rb (T++t :: R) cd (eu 1 (tz N)) dz):dz.i=T.length/\(dz.e=120\/dz.e=0):=by
 obtain ⟨lst,h1⟩:=h (t :: R);obtain ⟨K',d2,h2,hi,h3⟩:=(PO (L:=T++t :: R) hr _ sD hw).2 rfl;have h4:=xA hb (h1.trans h2);obtain ⟨c1,c2,c3⟩:=pX (n:=1) (d:=dz)
 rcases h3 with h3|⟨rfl,h5⟩
 ·have h7:=kx h4 (by rw [h3];decide);exact ⟨by rw [<-c2,h7,hi],.inl (by rw [<-c1,h7,h3])⟩
 ·cases h4;exact ⟨by rw [<-c2,hi],.inr (by rw [<-c1];exact h5)⟩
theorem yL {x:Fl}(hx:x.takes t=true):jb (T++t :: R) x ⟨T.length,p,s,l,0,v,N⟩=if 1000<p.length then ⟨T.length,p,s,l,122,v,N⟩ else ⟨T.length+1,p,s,if R=[] then p else l,0,v++⟨2,0,t⟩ :: N T.length,N⟩:=by
 have hq:qn (T++t :: R) ⟨T.length,p,s,l,0,v,N⟩ (fun t=>x.takes t)=true:=by unfold qn;rw [sD];exact hx
 unfold jb eU;rw [hq];simp only [SY]
 split
 ·rfl
 ·have:(T.length+1=(T++t :: R).length)↔R=[]:=by
   rw [Or,List.length_cons];constructor
   ·intro h;exact Rh (by omega)
   ·intro h;rw [h];simp
  have e2:(T++t :: R)[T.length]?.getD aC=t:=by simp
  simp only [this,e2]
theorem wj (h:rF N T K p s v) (hw:nw K=true) {k:Nat}{n m:Int}{E o:List Ev}{K2:List It}(hr:Ru t k K n E (.yes K2 m (E++o))) :
  nw K2=true/\(nu o (p,s)).1.map (·.1)=(bM K2).reverse/\((nu o (p,s)).1.length<=1000->rF N (T++[t]) K2 (nu o (p,s)).1 (nu o (p,s)).2 (v++o++⟨2,0,t⟩ :: N T.length))/\(1000<(nu o (p,s)).1.length->∀R dz,Rb (T++t :: R) cd (eu 1 (tz N)) dz->dz.e=122/\dz.i=T.length):=by
 have go:∀R,∃x lst,lY (T++t :: R) (cd++[.lv 1]) (eu 1 (tz N)) (.fl x :: K2) ⟨T.length,(nu o (p,s)).1,(nu o (p,s)).2,lst,0,v++o,N⟩/\(∀m,x≠Fl.mt m)/\x.takes t=true:=by
  intro R;obtain ⟨lst,h1⟩:=h (t :: R);obtain ⟨_,x,o',e1,hx,hx2,h2⟩:=(PO (L:=T++t :: R) hr _ sD hw).1 _ _ _ rfl;have e2:o'=o:=Sk e1.symm;subst e2;exact ⟨x,lst,h1.trans h2,hx,hx2⟩
 refine ⟨?_,?_,?_,?_⟩
 ·exact ((PO (L:=T++[t]) hr ⟨T.length,p,s,[],0,v,N⟩ sD hw).1 _ _ _ rfl).1
 ·obtain ⟨x,lst,h2,hx,_⟩:=go [];obtain ⟨_,h3⟩:=oR h2 rfl;obtain ⟨q,e1,e2⟩:=h3 [] [(1,1)] rfl rfl;simp at e1;rw [e1];exact e2
 ·intro hle R;obtain ⟨x,lst,h2,hx,hx2⟩:=go R;have h3:=h2.trans (iK hx K2);have h4:=yL (N:=N) (T:=T) (R:=R) (v:=v++o) hx2 (p:=(nu o (p,s)).1) (s:=(nu o (p,s)).2) (l:=lst);rw [Eq (by omega)] at h4;unfold jb at h4;rw [h4] at h3;refine ⟨if R=[] then (nu o (p,s)).1 else lst,?_⟩;rw [QW T,Or];exact h3
 ·intro hgt R dz hb;obtain ⟨x,lst,h2,hx,hx2⟩:=go R;have h3:=h2.trans (iK hx K2);have h4:=yL (N:=N) (T:=T) (R:=R) (v:=v++o) hx2 (p:=(nu o (p,s)).1) (s:=(nu o (p,s)).2) (l:=lst);rw [IO hgt] at h4;unfold jb at h4;rw [h4] at h3;have h5:=kx (xA hb h3) (by show (122:Int)≠0;decide);obtain ⟨c1,c2,c3⟩:=pX (n:=1) (d:=dz);exact ⟨by rw [<-c1,h5],by rw [<-c2,h5]⟩
theorem IJ (h:lY L [] d [] d'):d'=d:=by cases h;rfl
def G9 (K:List It):Prop:=K=[.lv 1]\/∃X,K=X++[.fl (.wd 6 [⟨#[46]⟩]),.lv 1]
theorem iX:G9 (cd++[.lv 1]):=.inr ⟨[.fl (.wd 2 [⟨#[112,114,111,103,114,97,109]⟩]),.fl (.nm),.fl (.wd 6 [⟨#[59]⟩]),.fl (.mt .block)],rfl⟩
theorem r9 {t:Tv}{K:List It}{R:Ro}(h:Ru t k K n E R):∀{L:List It}{m:Int}{F:List Ev},R=.yes L m F->G9 K->G9 L:=by
 induction h with
 |nil=>intro L m F h;cases h
 |ref _=>intro L m F h;cases h
 |tk hs=>
  rename_i i K n E
  intro L m F h hb;cases h
  rcases hb with hb|⟨X,hX⟩
  ·simp at hb;obtain ⟨rfl,rfl⟩:=hb;cases hs
  ·cases X with
   |nil=>simp at hX;exact .inl hX.2
   |cons j X=>simp at hX;exact .inr ⟨X,hX.2⟩
 |go hs hr ih=>
  rename_i k i K n d E o r R
  intro L m F h hb
  rcases hb with hb|⟨X,hX⟩
  ·simp at hb;obtain ⟨rfl,rfl⟩:=hb;cases hs;cases hr;cases h
  ·cases X with
   |nil=>
    simp at hX;obtain ⟨rfl,rfl⟩:=hX;simp only [It.step,Fl.step] at hs
    split at hs <;> cases hs
   |cons j X=>
    simp at hX;obtain ⟨rfl,rfl⟩:=hX;exact ih h (.inr ⟨r++X,by simp⟩)
theorem lC (h:rF N T K p s v) (hb2:G9 K) (hb:Rb T cd (eu 1 (tz N)) dz):dz.i=T.length/\(K.length=1->dz.e=0/\dz.v=v)/\(K.length≠1->dz.e=121):=by
 obtain ⟨lst,h1⟩:=h [];have hb':Rb (T++[]) cd (eu 1 (tz N)) dz:=by rw [RI];exact hb
 have h3:=xA hb' h1;obtain ⟨a,b,c⟩:=IK h3 rfl zz;obtain ⟨c1,c2,c3⟩:=pX (n:=1) (d:=dz);rw [c2] at b;refine ⟨b,?_⟩
 rcases hb2 with rfl|⟨X,rfl⟩
 ·refine ⟨fun _=>?_,fun h=>absurd rfl h⟩;cases h3 with
  |step h4=>
   have h5:=IJ h4;have he:dz.e=0:=by rw [<-c1,h5];rfl
   refine ⟨he,?_⟩;have h6:=Rj D.v h5;unfold mT at h6;rw [IO he] at h6;exact List.append_cancel_right h6
 ·refine ⟨fun h=>by simp at h,fun _=>?_⟩;have:=Bs aD h3 rfl X [.lv 1] rfl rfl zz;rw [c1] at this c;exact c.resolve_left this
end
end Go.Proofs.YtnljjdhodelhdaaGreatDoor
