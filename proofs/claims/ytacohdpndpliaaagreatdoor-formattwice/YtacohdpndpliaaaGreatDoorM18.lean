import Derived.Test.YtacohdpndpliaaaGreatDoorM17
set_option linter.all false
namespace Go.Proofs.YtacohdpndpliaaaGreatDoor
open Go.RowKit
variable {r K':List It}{n code q:Int}{k:Nat}{E o:List Ev}{i:It}{L:List Tv}{d d':D}{m:M}{ts:List ByteArray}
theorem jg {t:Tv}(hs:It.step t i=.ref) {k:Nat}{K:List It}{n:Int}{E:List Ev}{R:Ro}(h:Ru t k (i :: K) n E R):R=.no:=by
 cases h with
 |ref _=>rfl
 |tk h=>rw [hs] at h;cases h
 |go h _=>rw [hs] at h;cases h
theorem ng {t:Tv}(h:Fl.takes t (.wd q ts)=false):It.step t (.fl (.wd q ts))=.ref:=by
 simp [It.step,Fl.step,h]
theorem DG {t:Tv}{d:Int}(hs:It.step t i=.go d o (.fl (.wd q ts) :: r)) (hq:(t.k == q)=false) {k:Nat}{K:List It}{n:Int}{E:List Ev}{R:Ro}(h:Ru t k (i :: K) n E R):R=.no:=by
 cases h with
 |ref _=>rfl
 |tk h=>rw [hs] at h;cases h
 |go h hr=>
  rw [hs] at h;cases h;exact jg (ng (by simp [Fl.takes,hq])) hr
theorem uF {t:Tv}{k:Dk}(hm:k.pick t=some m) (hk:(t.k == k.kd)=false) {j:Nat}{K:List It}{n:Int}{E:List Ev}{R:Ro}(h:Ru t j (.fl (.mt m) :: K) n E R):R=.no:=by
 cases k <;> simp only [Dk.pick] at hm <;> simp only [Dk.kd] at hk
 all_goals (repeat' (split at hm))
 all_goals first
  | (cases hm;done)
  | (cases hm;exact DG rfl hk h)
theorem jj (he:d.e=0):ep n d=lI d [⟨1,n,aB⟩]:=by
 unfold ep;rw [IO he];rfl
theorem Aj {n:Int}{d:D}(he:d.e=0):mY n d=lI d [⟨3,n,aB⟩]:=by
 unfold mY;rw [IO he];rfl
theorem vZ {t:Tv}(h1:m≠.kind) (h2:m≠.statement):cK (some t) m=M.row t m:=by
 cases m <;> first|rfl|exact absurd rfl h1|exact absurd rfl h2
theorem mq (s:ByteArray):cg s=.ref\/∃nd r,cg s=.op nd (.fl (.wd 2 [s]) :: r):=by
 unfold cg
 repeat' split
 all_goals first
  |exact .inl rfl
  |exact .inr ⟨_,_,rfl⟩
theorem gJ {t:Tv}(hn:cR L d=some t) {m:M}{dn:Int}{o:List Ev}{r:List It}(hs:It.step t (.fl (.mt m))=.go dn o r) (he:cK (some t) m=M.row t m):dst L (.fl (.mt m)) d=(r,lI d o):=by
 have hz:=(eO hn).1;simp only [dst,hn,he];simp only [It.step,Fl.step] at hs;cases hr:M.row t m with
 |ref=>rw [hr] at hs;cases hs
 |ex r'=>rw [hr] at hs;cases hs;simp only [iB]
 |op nd r'=>rw [hr] at hs;cases hs;simp only [jj hz]
theorem ra {t:Tv}{p:Pk}:bu (some t) p=Pk.pick t p\/∃k m,p=.fn k/\k.pick t=some m/\(t.k == k.kd)=false/\bu (some t) p=none:=by
 cases p with
 |fn k=>
  simp only [bu,Pk.pick]
  by_cases h:(t.k == k.kd)=true
  ·exact .inl (IO h)
  ·have h':(t.k == k.kd)=false:=by simpa using h
   rw [Eq h];cases hp:k.pick t with
   |none=>exact .inl rfl
   |some m=>exact .inr ⟨k,m,rfl,hp,h',rfl⟩
 |row r=>exact .inl rfl
 |ex m=>exact .inl rfl
theorem Gk {t:Tv}{k:Dk}(hm:k.pick t=some m) (hk:(t.k == k.kd)=false):bad k t:=by
 refine ⟨hk,fun e=>?_⟩;subst e;simp only [Dk.pick] at hm;cases h1:t.is [91] with
 |true=>rfl
 |false=>
  cases h2:t.is [46] with
  |true=>rfl
  |false=>
   cases h3:t.is [40] with
   |true=>rfl
   |false=>rw [h1,h2,h3] at hm;cases hm
theorem Dn {t:Tv}(hn:cR L d=some t) {i:It}{dn:Int}{o:List Ev}{r:List It}(hs:It.step t i=.go dn o r) :
  dst L i d=(r,lI d o)\/((∀k K n E R,Ru t k (r++K) n E R->R=.no)/\(∀K,nw (i :: K)=true->j8 L (i :: K) d)):=by
 have hz:=(eO hn).1;cases i with
 |fl x=>
  cases x with
  |mt m=>
   by_cases h1:m=.kind
   ·subst h1
    by_cases k1:(t.k == 1)=true
    ·refine .inl (gJ hn hs ?_);have hk:t.k=1:=by simpa using k1
     simp [cK,M.row,wk,hk]
    ·have k1':(t.k == 1)=false:=by simpa using k1
     by_cases k2:(t.k == 2)=true
     ·have a1:wk 2 ⟨#[97,114,114,97,121]⟩ t=t.is [97,114,114,97,121]:=by rw [qG,k2,show (ByteArray.mk #[97,114,114,97,121]).toList=[97,114,114,97,121] by decide +kernel];rfl
      have a2:wk 2 ⟨#[114,101,99,111,114,100]⟩ t=t.is [114,101,99,111,114,100]:=by rw [qG,k2,show (ByteArray.mk #[114,101,99,111,114,100]).toList=[114,101,99,111,114,100] by decide +kernel];rfl
      by_cases b1:t.is [97,114,114,97,121]=true
      ·refine .inl (gJ hn hs ?_);simp [cK,M.row,a1,b1,k1']
      ·by_cases b2:t.is [114,101,99,111,114,100]=true
       ·refine .inl (gJ hn hs ?_);simp [cK,M.row,a1,a2,b1,b2,k1']
       ·simp [It.step,Fl.step,M.row,k1',b1,b2,Gw.sr] at hs
     ·have k2':(t.k == 2)=false:=by simpa using k2
      have a1:wk 2 ⟨#[97,114,114,97,121]⟩ t=false:=by simp only [wk,k2',Ti]
      have a2:wk 2 ⟨#[114,101,99,111,114,100]⟩ t=false:=by simp only [wk,k2',Ti]
      refine .inr ⟨?_,fun K _=>?_⟩
      ·intro k K n E R hR
       by_cases b1:t.is [97,114,114,97,121]=true
       ·simp only [It.step,Fl.step,M.row,k1',b1,QR,RM,SQ,Gw.sr] at hs;cases hs;exact jg (ng (by simp [Fl.takes,k2'])) hR
       ·by_cases b2:t.is [114,101,99,111,114,100]=true
        ·simp only [It.step,Fl.step,M.row,k1',b1,b2,QR,RM,SQ,Gw.sr] at hs;cases hs;exact jg (ng (by simp [Fl.takes,k2'])) hR
        ·simp [It.step,Fl.step,M.row,k1',b1,b2,Gw.sr] at hs
      ·have e:dst L (.fl (.mt .kind)) d=([.fl .nm,.lv 8],ep 8 d):=by
        simp only [dst,hn,cK,Option.elim,a1,a2,QR,RM];rfl
       refine j8.step ?_ ?_
       ·rw [e];refine si (t:=t) ?_ cV (by simp [Fl.takes,k1']);rw [jj hz];exact hn
       ·rw [e,jj hz];rfl
   ·by_cases h2:m=.statement
    ·subst h2
     by_cases k1:(t.k == 1)=true
     ·refine .inl (gJ hn hs ?_);simp [cK,M.row,k1]
     ·have k1':(t.k == 1)=false:=by simpa using k1
      by_cases k2:(t.k == 2)=true
      ·refine .inl (gJ hn hs ?_);simp [cK,M.row,k1',k2]
      ·have k2':(t.k == 2)=false:=by simpa using k2
       refine .inr ⟨?_,fun K _=>?_⟩
       ·intro k K n E R hR;simp only [It.step,Fl.step,M.row,k1',QR,RM] at hs
        rcases mq t.t with e|⟨nd,r',e⟩
        ·rw [e] at hs;cases hs
        ·rw [e] at hs;cases hs;exact jg (ng (by simp [Fl.takes,k2'])) hR
       ·have e:dst L (.fl (.mt .statement)) d=([],eU L false d):=by
         simp only [dst,hn,cK,k1',k2',QR,RM]
        refine ⟨K,eU L false d,?_,?_,.inl ?_⟩
        ·refine .step ?_;rw [e];exact .refl
        ·simp [eU,hz,(eO hn).2.2]
        ·simp [eU,hz,(eO hn).2.2]
    ·exact .inl (gJ hn hs (vZ h1 h2))
  |_=>
   simp only [It.step,Fl.step] at hs
   split at hs <;> cases hs
 |lv n=>
  cases hs;exact .inl (by simp only [dst,Aj (n:=n) hz])
 |all r=>cases hs;exact .inl (by rw [iB];rfl)
 |once p=>
  rcases ra (t:=t) (p:=p) with e|⟨k,m,rfl,hm,hk,e⟩
  ·cases hs;refine .inl ?_;simp only [dst,hn,e,iB]
  ·refine .inr ⟨?_,fun K hK=>?_⟩
   ·intro j K n E R hR;simp only [It.step,Pk.pick,hm,Sl,Option.toList] at hs;cases hs;exact uF hm hk hR
   ·have hK':=nG hK;refine j8.step ?_ rfl;simp only [dst,hn,e];exact rY (Gk hm hk) K d (hK'.2.2.2 k rfl) hn
 |again p=>
  rcases ra (t:=t) (p:=p) with e|⟨k,m,rfl,hm,hk,e⟩
  ·cases hs;refine .inl ?_;simp only [dst,hn,e,iB]
  ·refine .inr ⟨?_,fun K hK=>?_⟩
   ·intro j K n E R hR;simp only [It.step,Pk.pick,hm,Sl,GF] at hs;cases hs;exact uF hm hk hR
   ·have hK':=nG hK;refine j8.step ?_ rfl;simp only [dst,hn,e];exact rY (Gk hm hk) K d (hK'.2.2.2 k rfl) hn
theorem Pd {t:Tv}{L:List Tv}{k:Nat}{K:List It}{n:Int}{E:List Ev}{R:Ro}(h:Ru t k K n E R):∀(d:D),cR L d=some t->nw K=true ->
  (∀K2 m F,R=.yes K2 m F->nw K2=true/\∃x o,F=E++o/\(∀m,x≠Fl.mt m)/\x.takes t=true/\mf L K d (.fl x :: K2) (lI d o))/\(R=.no->j8 L K d):=by
 induction h with
 |nil=>
  intro d hn _;exact ⟨(fun K2 m F e=>by cases e),fun _=>⟨[],d,.refl,rfl,.inr ⟨rfl,(eO hn).1⟩⟩⟩
 |ref hs=>
  rename_i i K n E
  intro d hn hw;refine ⟨(fun K2 m F e=>by cases e),fun _=>?_⟩;cases i with
  |fl x=>
   by_cases hx:∃m,x=.mt m
   ·obtain ⟨m,rfl⟩:=hx;have hz:=(eO hn).1
    have fin:cK (some t) m=.ref->j8 L (.fl (.mt m) :: K) d:=fun e=>by
     refine ⟨K,eU L false d,?_,by simp [eU,hz,(eO hn).2.2],.inl (by simp [eU,hz,(eO hn).2.2])⟩;refine .step ?_;simp only [dst,hn,e];exact .refl
    by_cases h1:m=.kind
    ·subst h1;simp only [It.step,Fl.step,M.row] at hs
     by_cases k1:(t.k == 1)=true
     ·rw [IO k1] at hs;cases hs
     rw [Eq k1] at hs
     by_cases b1:t.is [97,114,114,97,121]=true
     ·rw [IO b1] at hs;cases hs
     rw [Eq b1] at hs
     by_cases b2:t.is [114,101,99,111,114,100]=true
     ·rw [IO b2] at hs;cases hs
     have a1:wk 2 ⟨#[97,114,114,97,121]⟩ t=false:=by
      rw [qG,show (ByteArray.mk #[97,114,114,97,121]).toList=[97,114,114,97,121] by decide +kernel];have:(t.t.toList == [97,114,114,97,121])=false:=by simpa [Tv.is] using b1
      rw [this,SF]
     have a2:wk 2 ⟨#[114,101,99,111,114,100]⟩ t=false:=by
      rw [qG,show (ByteArray.mk #[114,101,99,111,114,100]).toList=[114,101,99,111,114,100] by decide +kernel];have:(t.t.toList == [114,101,99,111,114,100])=false:=by simpa [Tv.is] using b2
      rw [this,SF]
     have e:dst L (.fl (.mt .kind)) d=([.fl .nm,.lv 8],ep 8 d):=by
      simp only [dst,hn,cK,Option.elim,a1,a2,QR,RM];rfl
     refine j8.step ?_ ?_
     ·rw [e];refine si (t:=t) ?_ cV (by simpa [Fl.takes] using k1);rw [jj hz];exact hn
     ·rw [e,jj hz];rfl
    ·by_cases h2:m=.statement
     ·subst h2;refine fin ?_;simp only [It.step,Fl.step,M.row] at hs
      by_cases k1:(t.k == 1)=true
      ·rw [IO k1] at hs;cases hs
      rw [Eq k1] at hs;simp only [cK,Eq k1]
      split
      ·rcases mq t.t with e|⟨nd,r',e⟩
       ·exact e
       ·rw [e] at hs;cases hs
      ·rfl
     ·refine fin ?_;rw [vZ h1 h2];simp only [It.step,Fl.step] at hs;cases hr:M.row t m with
      |ref=>rfl
      |ex r=>rw [hr] at hs;cases hs
      |op nd r=>rw [hr] at hs;cases hs
   ·refine si hn (fun m e=>hx ⟨m,e⟩) ?_;cases x with
    |mt m=>exact absurd ⟨m,rfl⟩ hx
    |_=>
     simp only [It.step,Fl.step] at hs
     split at hs
     ·cases hs
     ·rename_i h;simpa using h
  |_=>cases hs
 |tk hs=>
  rename_i i K n E
  intro d hn hw;refine ⟨fun K2 m F e=>?_,(fun e=>by cases e)⟩;cases e;refine ⟨(nG hw).1,?_⟩;cases i with
  |fl x=>
   have hx:∀m,x≠.mt m:=by
    intro m e;subst e;simp only [It.step,Fl.step] at hs;cases hr:M.row t m <;> rw [hr] at hs <;> cases hs
   refine ⟨x,[],by simp,hx,?_,by rw [iB];exact .refl⟩;cases x with
   |mt m=>exact absurd rfl (hx m)
   |_=>
    simp only [It.step,Fl.step] at hs
    split at hs
    ·rename_i h;exact h
    ·cases hs
  |_=>cases hs
 |go hs hr ih=>
  rename_i k i K n dn E o r R
  intro d hn hw
  rcases Dn hn hs with e|⟨e1,e2⟩
  ·have hw':=MR (L:=L) (d:=d) hw;have hn':cR L (lI d o)=some t:=hn;rw [e] at hw';obtain ⟨h1,h2⟩:=ih (lI d o) hn' hw';refine ⟨fun K2 m F eR=>?_,fun eR=>?_⟩
   ·obtain ⟨a,x,o2,b,c,f,g⟩:=h1 K2 m F eR;refine ⟨a,x,o++o2,by rw [b,Qz],c,f,.step ?_⟩;rw [e,<-D1];exact g
   ·refine j8.step ?_ (by rw [e];rfl);rw [e];exact h2 eR
  ·have:=e1 _ _ _ _ _ hr;subst this;exact ⟨(fun K2 m F e=>by cases e),fun _=>e2 K hw⟩
inductive mg|live (K:List It) (n:Int)|stuck (e n:Int)|shut
def beg (K:List It) (n:Int):List It:=if n == 0 then ce++.lv 1 :: K else K
def gh (n:Int):Int:=if n == 0 then 1 else n
def bK (n:Int):List Ev:=if n == 0 then [⟨1,1,aB⟩] else []
inductive jH (t:Tv):mg->List Ev->Int->mg->Prop
 |shut:jH t .shut [] 4 .shut
 |stuck {e n:Int}:jH t (.stuck e n) [] e (.stuck e n)
 |note {K:List It} {n:Int}:(t.k == 7 || t.k == 8)=true->jH t (.live K n) (bK n++[⟨4,0,t⟩]) 0 (.live (beg K n) (gh n))
 |no {K:List It} {n:Int} {k:Nat}:(t.k == 7 || t.k == 8)=false->Ru t k (beg K n) (gh n) (bK n) .no->k<=(beg K n).length+20->jH t (.live K n) [] 120 (.stuck 120 n)
 |deep {K L:List It} {n m:Int} {E:List Ev} {k:Nat}:(t.k == 7 || t.k == 8)=false->Ru t k (beg K n) (gh n) (bK n) (.yes L m E)->k<=(beg K n).length+20->1000<m->jH t (.live K n) [] 122 (.stuck 122 n)
 |yes {K L:List It} {n m:Int} {E:List Ev} {k:Nat}:(t.k == 7 || t.k == 8)=false->Ru t k (beg K n) (gh n) (bK n) (.yes L m E)->k<=(beg K n).length+20->m<=1000->jH t (.live K n) (E++[⟨2,0,t⟩]) 0 (.live L m)
structure Lz (K:List It) (n:Int):Prop where
 wf:jS K
 lv:((bJ K).length:Int)=n
 sn:(bJ K).length<=5000000
 sk:K.length<=500000
inductive wN:mg->List Ev->Int->Prop
 |shut:wN .shut [] 4
 |stuck {e n:Int}:wN (.stuck e n) [] e
 |all {K:List It} {n:Int}:K.length=1->wN (.live K n) [⟨3,1,aB⟩] 0
 |open {K:List It} {n:Int}:K.length≠1->wN (.live K n) [] 121
def Fl.ht:Fl->Nat
 |.mt .typed=>5
 |.mt .list=>3
 |_=>1
def rh:List Fl->Nat
 |[]=>0
 |x :: r=>max (x.ht+r.length) (rh r)
def Pk.ht:Pk->Nat
 |.row r=>rh r
 |.fn _=>1
 |.ex m=>(Fl.mt m).ht
def It.ht:It->Nat
 |.fl x=>x.ht
 |.lv _=>0
 |.once p=>max 1 p.ht
 |.again p=>1+max 1 p.ht
 |.all r=>max 1 (rh r)
def ww:List It->Nat
 |[]=>0
 |.lv _ :: _=>0
 |_ :: K=>1+ww K
def fb:List It->Prop
 |[]=>True
 |.lv _ :: K=>fb K
 |i :: K=>i.ht+ww K<=15/\fb K
theorem Fl.ht_pos (x:Fl):1<=x.ht:=by
 cases x with
 |mt m=>cases m <;> decide
 |_=>exact gt _
theorem It.ht_pos (i:It) (h:∀n,i≠.lv n):1<=i.ht:=by
 cases i with
 |fl x=>exact x.ht_pos
 |lv n=>exact absurd rfl (h n)
 |once p=>simp only [It.ht];omega
 |again p=>simp only [It.ht];omega
 |all r=>simp only [It.ht];omega
theorem kV (h:∀n,i≠.lv n) (K:List It):ww (i :: K)=1+ww K:=by
 cases i with
 |lv n=>exact absurd rfl (h n)
 |_=>rfl
theorem fe (h:∀n,i≠.lv n) (K:List It):fb (i :: K)↔i.ht+ww K<=15/\fb K:=by
 cases i with
 |lv n=>exact absurd rfl (h n)
 |_=>exact Iff.rfl
theorem xV:∀{K:List It},fb K->ww K<=15
 |[],_=>Qw _
 |i :: K,h=>by
  by_cases hl:∃n,i=.lv n
  ·obtain ⟨n,rfl⟩:=hl;exact Qw _
  ·have hn:∀n,i≠.lv n:=fun n e=>hl ⟨n,e⟩
   have h1:=((fe hn K).1 h).1;have:=i.ht_pos hn;rw [kV hn];omega
theorem tf:∀{K:List It},fb K->K.length<=16*(bJ K).length+ww K
 |[],_=>Qw _
 |i :: K,h=>by
  by_cases hl:∃n,i=.lv n
  ·obtain ⟨n,rfl⟩:=hl;have h':fb K:=h;have:=tf h';have:=xV h';simp [bJ,ww];omega
  ·have hn:∀n,i≠.lv n:=fun n e=>hl ⟨n,e⟩
   have:=tf ((fe hn K).1 h).2
   have e:bJ (i :: K)=bJ K:=by
    cases i with
    |lv n=>exact absurd rfl (hn n)
    |_=>rfl
   rw [kV hn,e];simp;omega
theorem MI (r:List Fl) (K:List It) (h:rh r+ww K<=15) (hK:fb K):fb (r.map It.fl++K)/\ww (r.map It.fl++K)=r.length+ww K:=by
 induction r with
 |nil=>exact ⟨hK,by simp⟩
 |cons x r ih=>
  simp only [rh] at h;obtain ⟨h1,h2⟩:=ih (by omega);refine ⟨(fe (fun n e=>by cases e) _).2 ⟨?_,h1⟩,?_⟩
  ·show x.ht+ww (r.map It.fl++K)<=15
   rw [h2];omega
  ·show ww (.fl x :: (r.map It.fl++K))=_
   rw [kV (fun n e=>by cases e),h2,List.length_cons];omega
theorem zj {t:Tv}{p:Pk}(h:Pk.pick t p=some i):i.ht<=max 1 p.ht/\∀n,i≠.lv n:=by
 cases p with
 |fn d=>
  simp only [Pk.pick,QT] at h;obtain ⟨m,hm,rfl⟩:=h;have:=oa hm;refine ⟨?_,fun n e=>by cases e⟩
  rcases this with rfl|rfl|rfl|rfl|rfl|rfl|rfl <;> exact gt 1
 |row r=>
  simp only [Pk.pick] at h
  split at h
  ·cases h;exact ⟨gt _,fun n e=>by cases e⟩
  ·cases h
 |ex m=>
  simp only [Pk.pick] at h
  split at h
  ·cases h
  ·cases h;exact ⟨by show (Fl.mt m).ht<=max 1 (Fl.mt m).ht;omega,fun n e=>by cases e⟩
def Gw.fb (m:M):Gw->Prop
 |.ref=>True
 |.ex r=>∀K,(Fl.mt m).ht+ww K<=15->Go.Proofs.YtacohdpndpliaaaGreatDoor.fb K->Go.Proofs.YtacohdpndpliaaaGreatDoor.fb (r++K)
 |.op nd r=>∀K,Go.Proofs.YtacohdpndpliaaaGreatDoor.fb K->Go.Proofs.YtacohdpndpliaaaGreatDoor.fb (r++.lv nd :: K)
theorem LT (t:Tv) (m:M):(M.row t m).fb m:=by
 cases m <;> simp only [M.row,cg] <;> (repeat' split) <;> simp [Gw.fb,fb,ww,It.ht,Fl.ht,Pk.ht,rh]
 all_goals (intro K h1 h2;simp only [h2,and_true];omega)
theorem rT {t:Tv}{d:Int}{K:List It}(h:It.step t i=.go d o r) (hf:fb (i :: K)):fb (r++K):=by
 cases i with
 |fl x=>
  obtain ⟨h1,h2⟩:=(fe (fun n e=>by cases e) K).1 hf
  have hm:∃m,x=.mt m:=by
   cases x with
   |mt m=>exact ⟨m,rfl⟩
   |_=>simp only [It.step,Fl.step] at h;split at h <;> cases h
  obtain ⟨m,rfl⟩:=hm;have hr:=LT t m;simp only [It.step,Fl.step] at h;cases hrow:M.row t m with
  |ref=>rw [hrow] at h;cases h
  |ex r'=>rw [hrow] at h hr;cases h;exact hr K h1 h2
  |op nd r'=>rw [hrow] at h hr;cases h;rw [Qz];exact hr K h2
 |lv n=>cases h;exact hf
 |once p=>
  obtain ⟨h1,h2⟩:=(fe (fun n e=>by cases e) K).1 hf;simp only [It.step] at h;cases hp:Pk.pick t p with
  |none=>rw [hp] at h;cases h;exact h2
  |some j=>
   rw [hp] at h;cases h;obtain ⟨a,b⟩:=zj hp;exact (fe b K).2 ⟨by simp only [It.ht] at h1;omega,h2⟩
 |again p=>
  have hn:∀n,It.again p≠.lv n:=fun n e=>by cases e
  obtain ⟨h1,h2⟩:=(fe hn K).1 hf;simp only [It.step] at h;cases hp:Pk.pick t p with
  |none=>rw [hp] at h;cases h;exact h2
  |some j=>
   rw [hp] at h;cases h;obtain ⟨a,b⟩:=zj hp;refine (fe b _).2 ⟨?_,hf⟩;show j.ht+ww (.again p :: K)<=15;rw [kV hn];simp only [It.ht] at h1;omega
 |all r'=>
  obtain ⟨h1,h2⟩:=(fe (fun n e=>by cases e) K).1 hf;cases h;exact (MI r' K (by simp only [It.ht] at h1;omega) h2).1
def cG:List Int->List Ev->Option (List Int)
 |s,[]=>some s
 |s,e :: r=>if e.k=1 then cG (e.n :: s) r else if e.k=3 then (match s with|n :: s'=>if n=e.n then cG s' r else none|[]=>none) else cG s r
theorem dK:∀(a b:List Ev) (s s':List Int),cG s a=some s'->cG s (a++b)=cG s' b
 |[],b,s,s',h=>by cases h;rfl
 |e :: r,b,s,s',h=>by
  simp only [cG,QW] at h ⊢
  split
  ·rename_i h1;rw [IO h1] at h;exact dK r b _ _ h
  ·rename_i h1
   rw [Eq h1] at h
   split
   ·rename_i h2
    rw [IO h2] at h;cases s with
    |nil=>cases h
    |cons n s=>
     simp only at h ⊢
     split
     ·rename_i h3;rw [IO h3] at h;exact dK r b _ _ h
     ·rename_i h3;rw [Eq h3] at h;cases h
   ·rename_i h2;rw [Eq h2] at h;exact dK r b _ _ h
theorem lA {t:Tv}{i:It}{d:Int}{o:List Ev}{r K:List It}(h:It.step t i=.go d o r) (hi:i.wf):cG (bJ (i :: K)) o=some (bJ (r++K)):=by
 have hk:=fF (K:=K) h hi;cases i with
 |fl x=>
  have hm:∃m,x=.mt m:=by
   cases x with
   |mt m=>exact ⟨m,rfl⟩
   |_=>simp only [It.step,Fl.step] at h;split at h <;> cases h
  obtain ⟨m,rfl⟩:=hm;have hr:=gZ t m;simp only [It.step,Fl.step] at h;cases hrow:M.row t m with
  |ref=>rw [hrow] at h;cases h
  |ex r'=>rw [hrow] at h hr;cases h;rw [bM,hr.2.2];rfl
  |op nd r'=>rw [hrow] at h hr;cases h;rw [bM,bM,hr.2.2.1];rfl
 |lv n=>cases h;simp [cG,bJ]
 |once p=>
  simp only [It.step] at h;cases hp:Pk.pick t p with
  |none=>rw [hp] at h;cases h;rfl
  |some j=>rw [hp] at h;cases h;show some (bJ K)=some (bJ ([j]++K));rw [bM,(nz hi hp).2];rfl
 |again p=>
  simp only [It.step] at h;cases hp:Pk.pick t p with
  |none=>rw [hp] at h;cases h;rfl
  |some j=>rw [hp] at h;cases h;show some (bJ K)=some (bJ ([j]++([.again p]++K)));rw [bM,(nz hi hp).2];rfl
 |all r'=>cases h;rw [bM,jU];rfl
structure Ok (K:List It) (n:Int):Prop where
 wf:jS K
 fb:fb K
 lv:((bJ K).length:Int)=n
 le:n<=1000
theorem Ok.lz {K:List It}(h:Ok K n):Lz K n:=by
 have h1:=h.lv;have h2:=h.le;have h3:=tf h.fb;have h4:=xV h.fb;exact ⟨h.wf,h.lv,by omega,by omega⟩
theorem eD {t:Tv}{K:List It}{R:Ro}(h:Ru t k K n E R):∀{L:List It}{m:Int}{F:List Ev},R=.yes L m F->jS K->fb K->((bJ K).length:Int)=n ->
  jS L/\fb L/\((bJ L).length:Int)=m/\∃o,F=E++o/\cG (bJ K) o=some (bJ L)/\(∀e∈o,e.d=aB/\(e.k=1\/e.k=3)/\(e.k=1->e.n≠1))/\o.length<=k:=by
 induction h with
 |nil=>intro L m F h;cases h
 |ref _=>intro L m F h;cases h
 |tk hs=>
  rename_i i K n E
  intro L m F h hw hf hn;cases h;have hl:∀a,i≠.lv a:=fun a e=>by subst e;cases hs
  have e:bJ (i :: K)=bJ K:=by
   cases i with
   |lv a=>exact absurd rfl (hl a)
   |_=>rfl
  rw [e] at hn;exact ⟨fun j hj=>hw j (QB _ hj),((fe hl K).1 hf).2,hn,[],by simp,by rw [e];rfl,fun x hx=>by simp at hx,Qw _⟩
 |go hs _ ih=>
  rename_i k i K n d E o r R _
  intro L m F h hw hf hn;have hi:=hw i (QA ..);obtain ⟨a1,a2,a3,a4⟩:=fF (K:=K) hs hi;obtain ⟨b1,b2,b3,o2,b4,b5,b6,b7⟩:=ih h (fD a1 (fun j hj=>hw j (QB _ hj))) (rT hs hf) (by omega);refine ⟨b1,b2,b3,o++o2,by rw [b4,Qz],(dK o o2 _ _ (lA hs hi)).trans b5,?_,by simp;omega⟩;intro x hx
  rcases QO.1 hx with hx|hx
  ·cases i with
   |fl y=>
    have hm:∃m,y=.mt m:=by
     cases y with
     |mt m=>exact ⟨m,rfl⟩
     |_=>simp only [It.step,Fl.step] at hs;split at hs <;> cases hs
    obtain ⟨mm,rfl⟩:=hm;have hr:=gZ t mm;simp only [It.step,Fl.step] at hs;cases hrow:M.row t mm with
    |ref=>rw [hrow] at hs;cases hs
    |ex r'=>rw [hrow] at hs;cases hs;simp at hx
    |op nd r'=>rw [hrow] at hs hr;cases hs;simp at hx;subst hx;exact ⟨rfl,.inl rfl,fun _=>by have:=hr.2.2.2.1;show nd≠1;omega⟩
   |lv a=>cases hs;simp at hx;subst hx;exact ⟨rfl,.inr rfl,fun e=>by cases e⟩
   |once p=>cases hs;simp at hx
   |again p=>cases hs;simp at hx
   |all r'=>cases hs;simp at hx
  ·exact b6 x hx
theorem Md {K:List It}(h:Ok K n) (h0:n=0->K=[]):jS (beg K n)/\fb (beg K n)/\((bJ (beg K n)).length:Int)=gh n/\cG (bJ K) (bK n)=some (bJ (beg K n))/\(beg K n).length<=20000:=by
 have hz:=h.lz;have h3:=tf h.fb;have h4:=xV h.fb;have h1:=h.lv;have h2:=h.le
 by_cases hn:n=0
 ·obtain rfl:=h0 hn;subst hn;refine ⟨?_,?_,rfl,rfl,by simp [beg,ce]⟩
  ·intro i hi;simp [beg,ce] at hi
   rcases hi with rfl|rfl|rfl|rfl|rfl|rfl <;> trivial
  ·simp [beg,ce,fb,It.ht,Fl.ht,ww]
 ·have hb:(n == 0)=false:=by simpa using hn
  simp only [beg,gh,bK,hb,QR,RM];exact ⟨h.wf,h.fb,h.lv,rfl,by omega⟩
def Nw (K:List It):Prop:=∃X,K=X++[.lv 1]
theorem oR {t:Tv}{K:List It}{R:Ro}(h:Ru t k K n E R):∀{L:List It}{m:Int}{F:List Ev},R=.yes L m F->Nw K->Nw L:=by
 induction h with
 |nil=>intro L m F h;cases h
 |ref _=>intro L m F h;cases h
 |tk hs=>
  rename_i i K n E
  intro L m F h hb;cases h;obtain ⟨X,hX⟩:=hb;cases X with
  |nil=>simp at hX;obtain ⟨rfl,rfl⟩:=hX;cases hs
  |cons j X=>simp at hX;exact ⟨X,hX.2⟩
 |go hs hr ih=>
  rename_i k i K n d E o r R
  intro L m F h hb;obtain ⟨X,hX⟩:=hb;cases X with
  |nil=>
   simp at hX;obtain ⟨rfl,rfl⟩:=hX;cases hs;cases hr;cases h
  |cons j X=>
   simp at hX;obtain ⟨rfl,rfl⟩:=hX;exact ih h ⟨r++X,by simp⟩
theorem iW {K:List It}(h:Nw K):1<=(bJ K).length:=by
 obtain ⟨X,rfl⟩:=h;rw [bM];simp [bJ]
def fY:mg->Prop
 |.live K n=>Ok K n/\((n=0/\K=[])\/Nw K)
 |.stuck e n=>e=120\/e=122
 |.shut=>True
theorem fk:fY (.live [] 0):=⟨⟨gV,trivial,rfl,by decide⟩,.inl ⟨rfl,rfl⟩⟩
def mg.path:mg->List Int
 |.live K _=>bJ K
 |_=>[]
theorem cJ {K:List It}(h:fY (.live K n)):jS (beg K n)/\fb (beg K n)/\((bJ (beg K n)).length:Int)=gh n/\cG (bJ K) (bK n)=some (bJ (beg K n))/\(beg K n).length<=20000/\Nw (beg K n)/\gh n<=1000/\(bK n).length<=1:=by
 have hn0:n=0->K=[]:=by
  intro e
  rcases h.2 with h2|h2
  ·exact h2.2
  ·have:=iW h2;have:=h.1.lv;omega
 obtain ⟨b1,b2,b3,b4,b5⟩:=Md h.1 hn0;have hle:=h.1.le;refine ⟨b1,b2,b3,b4,b5,?_,by unfold gh;split <;> omega,by unfold bK;split <;> simp⟩
 by_cases e:n=0
 ·obtain rfl:=hn0 e;subst e;exact ⟨ce,by simp [beg]⟩
 ·rcases h.2 with h2|h2
  ·exact absurd h2.1 e
  ·have hb:(n == 0)=false:=by simpa using e
   simp only [beg,hb,QR,RM];exact h2
theorem dJ {st st':mg}{t:Tv}{ev:List Ev}(h:fY st) (hp:jH t st ev code st'):fY st'/\ev.length<=30000/\(code=0->∃K n,st'=.live K n/\Nw K)/\(code=0->cG st.path ev=some st'.path):=by
 cases hp with
 |shut=>exact ⟨trivial,by simp,fun h=>(by cases h),fun h=>(by cases h)⟩
 |stuck=>exact ⟨h,by simp,fun h0=>(by subst h0;rcases h with h|h <;> cases h),fun h0=>(by subst h0;rcases h with h|h <;> cases h)⟩
 |note hc=>
  obtain ⟨b1,b2,b3,b4,b5,hbot,hbn,hbe⟩:=cJ h;refine ⟨⟨⟨b1,b2,b3,hbn⟩,.inr hbot⟩,by simp;omega,fun _=>⟨_,_,rfl,hbot⟩,fun _=>?_⟩;refine (dK _ _ _ _ b4).trans ?_;simp [cG];rfl
 |no hc hR hk=>exact ⟨.inl rfl,by simp,fun h=>(by cases h),fun h=>(by cases h)⟩
 |deep hc hR hk hm=>exact ⟨.inr rfl,by simp,fun h=>(by cases h),fun h=>(by cases h)⟩
 |yes hc hR hk hm=>
  obtain ⟨b1,b2,b3,b4,b5,hbot,hbn,hbe⟩:=cJ h;obtain ⟨c1,c2,c3,o,c4,c5,c6,c7⟩:=eD hR rfl b1 b2 b3;have hL:=oR hR rfl hbot;refine ⟨⟨⟨c1,c2,c3,by omega⟩,.inr hL⟩,by rw [c4];simp;omega,fun _=>⟨_,_,rfl,hL⟩,fun _=>?_⟩;rw [c4,Qz];refine (dK _ _ _ _ b4).trans ((dK _ _ _ _ c5).trans ?_);simp [cG];rfl
theorem L4 {st:mg}(h:fY st) (t:Tv):∃ev code st',jH t st ev code st':=by
 cases st with
 |shut=>exact ⟨_,_,_,.shut⟩
 |stuck e n=>exact ⟨_,_,_,.stuck⟩
 |live K n=>
  obtain ⟨b1,b2,b3,b4,b5,hbot,hbn,hbe⟩:=cJ h
  by_cases hc:(t.k == 7 || t.k == 8)=true
  ·exact ⟨_,_,_,.note hc⟩
  ·have hc':(t.k == 7 || t.k == 8)=false:=by simpa using hc
   obtain ⟨k,R,hk,hR⟩:=KF t (beg K n) b1 (gh n) (bK n);cases R with
   |no=>exact ⟨_,_,_,.no hc' hR hk⟩
   |yes L m F=>
    by_cases hm:1000<m
    ·exact ⟨_,_,_,.deep hc' hR hk hm⟩
    ·exact ⟨_,_,_,.yes hc' hR hk (by omega)⟩
theorem F2 (st:mg):∃ev code,wN st ev code/\ev.length<=1:=by
 cases st with
 |live K n=>
  by_cases h:K.length=1
  ·exact ⟨_,_,.all h,by simp⟩
  ·exact ⟨_,_,.open h,by simp⟩
 |stuck e n=>exact ⟨_,_,.stuck,by simp⟩
 |shut=>exact ⟨_,_,.shut,by simp⟩
inductive gi:mg->List Tv->List Ev->Int->Nat->Prop
 |nil {st:mg} {ev:List Ev} {code:Int}:wN st ev code->gi st [] ev code 0
 |err {st st':mg} {t:Tv} {l:List Tv} {ev:List Ev} {code:Int}:jH t st ev code st'->code≠0->gi st (t :: l) [] code 0
 |on {st st':mg} {t:Tv} {l:List Tv} {ev E:List Ev} {code:Int} {k:Nat}:jH t st ev 0 st'->gi st' l E code k->gi st (t :: l) (ev++E) code (k+1)
theorem GC:∀(l:List Tv) (st:mg),fY st->∃E code k,gi st l E code k
 |[],st,h=>by
  obtain ⟨ev,code,h1,_⟩:=F2 st;exact ⟨_,_,_,.nil h1⟩
 |t :: l,st,h=>by
  obtain ⟨ev,code,st',h1⟩:=L4 h t;have h2:=(dJ h h1).1
  by_cases hc:code=0
  ·subst hc;obtain ⟨E,c,k,h3⟩:=GC l st' h2;exact ⟨_,_,_,.on h1 h3⟩
  ·exact ⟨_,_,_,.err h1 hc⟩
theorem gi.inv {st:mg}{t:Tv}{l:List Tv}(h:gi st (t :: l) E code k):(∃ev st',jH t st ev code st'/\code≠0/\E=[]/\k=0)\/(∃ev st' E2 k2,jH t st ev 0 st'/\gi st' l E2 code k2/\E=ev++E2/\k=k2+1):=by
 cases h with
 |err h1 h2=>exact .inl ⟨_,_,h1,h2,rfl,rfl⟩
 |on h1 h2=>exact .inr ⟨_,_,_,_,h1,h2,rfl,rfl⟩
theorem gi.end {st:mg}(h:gi st [] E code k):wN st E code/\k=0:=by
 cases h with
 |nil h1=>exact ⟨h1,rfl⟩
inductive wU (t:Tv):List It->Prop
 |fl {x:Fl} {K:List It}:wU t (.fl x :: K)
 |all {r:List Fl} {K:List It}:KE r->wU t (.all r :: K)
 |onceS {p:Pk} {i:It} {K:List It}:Pk.pick t p=some i->wU t (.once p :: K)
 |againS {p:Pk} {i:It} {K:List It}:Pk.pick t p=some i->wU t (.again p :: K)
 |onceN {p:Pk} {K:List It}:Pk.pick t p=none->wU t K->wU t (.once p :: K)
 |againN {p:Pk} {K:List It}:Pk.pick t p=none->wU t K->wU t (.again p :: K)
def Gw.cm (t:Tv):Gw->Prop
 |.ref=>True
 |.ex r=>∀K,wU t (r++K)
 |.op nd r=>∀K,wU t (r++K)
theorem F0 (t:Tv) (p:Pk) (x:Fl) (K:List It):wU t (.again p :: .fl x :: K):=by
 cases h:Pk.pick t p with
 |none=>exact .againN h .fl
 |some i=>exact .againS h
theorem LU (t:Tv) (m:M):(M.row t m).cm t:=by
 cases m <;> simp only [M.row,cg] <;> (repeat' split)
 all_goals first
  |trivial
  | (intro K;exact .fl)
  | (intro K;exact F0 t _ _ _)
theorem uT {t:Tv}{p:Pk}(hp:p.wf) {i:It}(h:Pk.pick t p=some i) (K:List It):wU t (i :: K):=by
 cases p with
 |fn d=>
  simp only [Pk.pick,QT] at h;obtain ⟨m,_,rfl⟩:=h;exact .fl
 |row r=>
  simp only [Pk.pick] at h
  split at h
  ·cases h;exact .all hp
  ·cases h
 |ex m=>
  simp only [Pk.pick] at h
  split at h
  ·cases h
  ·cases h;exact .fl
theorem ux {t:Tv}{d:Int}{K:List It}(h:It.step t i=.go d o r) (hi:i.wf) (hc:wU t (i :: K)):wU t (r++K)/\(∀e∈o,e.k=1)/\0<=d:=by
 cases i with
 |fl x=>
  have hm:∃m,x=.mt m:=by
   cases x with
   |mt m=>exact ⟨m,rfl⟩
   |_=>simp only [It.step,Fl.step] at h;split at h <;> cases h
  obtain ⟨m,rfl⟩:=hm;have hr:=LU t m;simp only [It.step,Fl.step] at h;cases hrow:M.row t m with
  |ref=>rw [hrow] at h;cases h
  |ex r'=>rw [hrow] at h hr;cases h;exact ⟨hr K,fun e he=>by simp at he,by omega⟩
  |op nd r'=>rw [hrow] at h hr;cases h;rw [Qz];exact ⟨hr _,fun e he=>by simp at he;subst he;rfl,by omega⟩
 |lv n=>cases hc
 |once p=>
  simp only [It.step] at h;cases hp:Pk.pick t p with
  |none=>
   rw [hp] at h;cases h;cases hc with
   |onceS h2=>rw [hp] at h2;cases h2
   |onceN _ h2=>exact ⟨h2,fun e he=>by simp at he,by omega⟩
  |some j=>rw [hp] at h;cases h;exact ⟨uT hi hp K,fun e he=>by simp at he,by omega⟩
 |again p=>
  simp only [It.step] at h;cases hp:Pk.pick t p with
  |none=>
   rw [hp] at h;cases h;cases hc with
   |againS h2=>rw [hp] at h2;cases h2
   |againN _ h2=>exact ⟨h2,fun e he=>by simp at he,by omega⟩
  |some j=>rw [hp] at h;cases h;exact ⟨uT hi hp _,fun e he=>by simp at he,by omega⟩
 |all r'=>
  cases h;obtain ⟨⟨k,ts,rest,rfl⟩,_⟩:=hi;exact ⟨.fl,fun e he=>by simp at he,by omega⟩
theorem DF {t:Tv}{K:List It}{R:Ro}(h:Ru t k K n E R):∀{L:List It}{m:Int}{F:List Ev},R=.yes L m F->jS K->wU t K->∃o,F=E++o/\(∀e∈o,e.k=1):=by
 induction h with
 |nil=>intro L m F h;cases h
 |ref _=>intro L m F h;cases h
 |tk hs=>intro L m F h _ _;cases h;exact ⟨[],by simp,fun e he=>by simp at he⟩
 |go hs _ ih=>
  rename_i k i K n d E o r R _
  intro L m F h hw hc;have hi:=hw i (QA ..);obtain ⟨a1,a2,a3⟩:=ux hs hi hc;obtain ⟨o2,b1,b2⟩:=ih h (fD (fF (K:=K) hs hi).1 (fun j hj=>hw j (QB _ hj))) a1;exact ⟨o++o2,by rw [b1,Qz],fun e he=>(QO.1 he).elim (a2 e) (b2 e)⟩
theorem DE {t:Tv}{K:List It}{R:Ro}(h:Ru t k K n E R):∀{L:List It}{m:Int}{F:List Ev},R=.yes L m F->jS K->∃c o,F=E++(c++o)/\(∀e∈c,e.k=3)/\(∀e∈o,e.k=1):=by
 induction h with
 |nil=>intro L m F h;cases h
 |ref _=>intro L m F h;cases h
 |tk hs=>intro L m F h _;cases h;exact ⟨[],[],by simp,fun e he=>by simp at he,fun e he=>by simp at he⟩
 |go hs hr ih=>
  rename_i k i K n d E o r R
  intro L m F h hw;have hi:=hw i (QA ..);have hw2:=fD (fF (K:=K) hs hi).1 (fun j hj=>hw j (QB _ hj))
  by_cases hl:∃a,i=.lv a
  ·obtain ⟨a,rfl⟩:=hl;cases hs;obtain ⟨c,o2,b1,b2,b3⟩:=ih h hw2;exact ⟨⟨3,a,aB⟩ :: c,o2,by rw [b1];simp,fun e he=>(QV.1 he).elim (fun e1=>by rw [e1]) (b2 e),b3⟩
  ·
   by_cases hc:wU t (i :: K)
   ·obtain ⟨a1,a2,a3⟩:=ux hs hi hc;obtain ⟨o2,b1,b2⟩:=DF hr h hw2 a1;exact ⟨[],o++o2,by rw [b1];simp,fun e he=>by simp at he,fun e he=>(QO.1 he).elim (a2 e) (b2 e)⟩
   ·have ho:o=[]:=by
     cases i with
     |fl x=>exact absurd .fl hc
     |lv a=>exact absurd ⟨a,rfl⟩ hl
     |once p=>cases hs;rfl
     |again p=>cases hs;rfl
     |all r'=>cases hs;rfl
    subst ho;obtain ⟨c,o2,b1,b2,b3⟩:=ih h hw2;exact ⟨c,o2,by rw [b1];simp,b2,b3⟩
def ip (t:Tv):Bool:=t.k == 7 || t.k == 8
theorem oO {t:Tv}{K:List It}{R:Ro}(h:Ru t k K n E R) :
  (R=.no->∀E',Ru t k K n E' .no)/\(∀L m F,R=.yes L m F->∃o,F=E++o/\∀E',Ru t k K n E' (.yes L m (E'++o))):=by
 induction h with
 |nil=>exact ⟨fun _ E'=>.nil,fun L m F e=>by cases e⟩
 |ref hs=>exact ⟨fun _ E'=>.ref hs,fun L m F e=>by cases e⟩
 |tk hs=>
  refine ⟨(fun e=>by cases e),fun L m F e=>?_⟩;cases e;exact ⟨[],by simp,fun E'=>by simpa using Ru.tk hs⟩
 |go hs hr ih=>
  refine ⟨fun e E'=>.go hs (ih.1 e _),fun L m F e=>?_⟩;obtain ⟨o2,rfl,h2⟩:=ih.2 L m F e;refine ⟨_,(Qz ..),fun E'=>.go hs ?_⟩;rw [<-Qz];exact h2 _
def tD (N:Nat->List Ev):D:=⟨0,[],0,[],0,[],N⟩
theorem KV (N:Nat->List Ev):ep 1 (tD N)=⟨0,[(1,1)],1,[],0,[⟨1,1,aB⟩],N⟩:=rfl
theorem FF {L:List Tv}{i:It}{d:D}(h:d.e≠0):(dst L i d).2=d:=by
 have hn:cR L d=none:=by unfold cR;rw [Eq h]
 have hq:∀f,qn L d f=false:=fun f=>by unfold qn;rw [hn];rfl
 have ht:eU L false d=d:=by simp [eU,h]
 cases i with
 |fl x=>
  cases x with
  |mt m=>
   simp only [dst];cases cK (cR L d) m with
   |ref=>exact ht
   |ex r=>rfl
   |op nd r=>exact uZ h
  |_=>simp only [dst,hq];exact ht
 |lv n=>exact wB h
 |_=>rfl
theorem kB {K:List It}(h:mf L K d K' d') (he:d.e≠0):d'=d:=by
 induction h with
 |refl=>rfl
 |step _ ih=>
  rename_i i K K' d d' _
  have:=FF (L:=L) (i:=i) he;rw [this] at ih;exact ih he
theorem zY {L:List Tv}{i:It}{d:D}(he:d.e=0) (hn:cR L d=none):(dst L i d).2.l=d.l/\(dst L i d).2.i=d.i/\(((dst L i d).2.e=0/\cR L (dst L i d).2=none)\/(dst L i d).2.e=121):=by
 have hi:¬d.i<L.length:=by
  intro h;unfold cR at hn;rw [IO he,Pi h] at hn;cases hn
 have hq:∀f,qn L d f=false:=fun f=>by unfold qn;rw [hn];rfl
 have ht:eU L false d={ d with e:=121 }:=by simp [eU,he,hi]
 cases i with
 |fl x=>
  cases x with
  |mt m=>
   simp only [dst];cases cK (cR L d) m with
   |ref=>simp only [ht];exact ⟨trivial,trivial,.inr trivial⟩
   |ex r=>exact ⟨rfl,rfl,.inl ⟨he,hn⟩⟩
   |op nd r=>
    simp only;rw [jj he];exact ⟨rfl,rfl,.inl ⟨he,hn⟩⟩
  |_=>simp only [dst,hq,ht];exact ⟨trivial,trivial,.inr trivial⟩
 |lv n=>
  simp only [dst];rw [Aj (n:=n) he];exact ⟨rfl,rfl,.inl ⟨he,hn⟩⟩
 |_=>exact ⟨rfl,rfl,.inl ⟨he,hn⟩⟩
theorem Ir {K:List It}(h:mf L K d K' d') (he:d.e=0) (hn:cR L d=none):d'.l=d.l/\d'.i=d.i/\(d'.e=0\/d'.e=121):=by
 induction h with
 |refl=>exact ⟨rfl,rfl,.inl he⟩
 |step hr ih=>
  rename_i i K K' d d'
  obtain ⟨a,b,c⟩:=zY (i:=i) he hn
  rcases c with ⟨c1,c2⟩|c
  ·grind
  ·have:=kB hr (by rw [c];decide);rw [this];exact ⟨a,b,.inr c⟩
theorem Bg {x:Fl}(hx:∀m,x≠.mt m) {K K':List It}{d d':D}(h:mf L K d K' d'):K'=[]->∀(X Y:List It),K=X++.fl x :: Y->d.e=0->cR L d=none->d'.e≠0:=by
 induction h with
 |refl=>intro e X Y e2;rw [e] at e2;cases X <;> cases e2
 |step hr ih=>
  rename_i i K K' d d'
  intro e X Y e2 he hn;obtain ⟨a,b,c⟩:=zY (i:=i) he hn
  rcases c with ⟨c1,c2⟩|c
  ·cases X with
   |nil=>
    simp at e2;obtain ⟨rfl,rfl⟩:=e2
    exfalso
    have e3:dst L (.fl x) d=([],eU L (qn L d (fun t=>x.takes t)) d):=by
     cases x with
     |mt m=>exact absurd rfl (hx m)
     |_=>rfl
    rw [e3] at c1;have hq:qn L d (fun t=>x.takes t)=false:=by unfold qn;rw [hn];rfl
    rw [hq] at c1;exact absurd (oC c1).1 (by decide)
   |cons j X=>
    simp at e2;obtain ⟨rfl,rfl⟩:=e2;exact ih e ((dst L i d).1++X) Y (by simp) c1 c2
  ·have:=kB hr (by rw [c];decide);rw [this,c]
   decide
def rL (N:Nat->List Ev) (T:List Tv) (K:List It) (p:List (Int × Nat)) (s:Nat) (v:List Ev):Prop:=∀R,∃lst,mf (T++R) (ce++[.lv 1]) (ep 1 (tD N)) K ⟨T.length,p,s,lst,0,v,N⟩
theorem rE (N:Nat->List Ev):rL N [] (ce++[.lv 1]) [(1,1)] 1 [⟨1,1,aB⟩]:=fun R=>⟨[],.refl⟩
section
variable {N:Nat->List Ev} {T R:List Tv} {K:List It} {p:List (Int × Nat)} {s:Nat} {l:List (Int × Nat)} {v:List Ev} {t:Tv} {dz:D}
theorem sH:cR (T++t :: R) ⟨T.length,p,s,l,0,v,N⟩=some t:=by simp [cR]
theorem zp:cR (T++[]) ⟨T.length,p,s,l,0,v,N⟩=none:=by simp [cR]
theorem xu (h:Rb L ce (ep 1 (tD N)) dz) {K:List It}{d:D}(h':mf L (ce++[.lv 1]) (ep 1 (tD N)) K d):mf L K d [] (mY 1 dz):=h'.det ((h [.lv 1]).trans (.step .refl))
theorem qh {n:Int}{d:D}:(mY n d).e=d.e/\(mY n d).i=d.i/\(mY n d).l=d.l:=by unfold mY;split <;> exact ⟨rfl,rfl,rfl⟩
theorem LY (h:rL N T K p s v) (hw:nw K=true) {k:Nat}{n:Int}{E:List Ev}(hr:Ru t k K n E .no) (hb:Rb (T++t :: R) ce (ep 1 (tD N)) dz):dz.i=T.length/\(dz.e=120\/dz.e=0):=by
 obtain ⟨lst,h1⟩:=h (t :: R);obtain ⟨K',d2,h2,hi,h3⟩:=(Pd (L:=T++t :: R) hr _ sH hw).2 rfl;have h4:=xu hb (h1.trans h2);obtain ⟨c1,c2,c3⟩:=qh (n:=1) (d:=dz)
 rcases h3 with h3|⟨rfl,h5⟩
 ·have h7:=kB h4 (by rw [h3];decide);exact ⟨by rw [<-c2,h7,hi],.inl (by rw [<-c1,h7,h3])⟩
 ·cases h4;exact ⟨by rw [<-c2,hi],.inr (by rw [<-c1];exact h5)⟩
theorem yD {x:Fl}(hx:x.takes t=true):jb (T++t :: R) x ⟨T.length,p,s,l,0,v,N⟩=if 1000<p.length then ⟨T.length,p,s,l,122,v,N⟩ else ⟨T.length+1,p,s,if R=[] then p else l,0,v++⟨2,0,t⟩ :: N T.length,N⟩:=by
 have hq:qn (T++t :: R) ⟨T.length,p,s,l,0,v,N⟩ (fun t=>x.takes t)=true:=by unfold qn;rw [sH];exact hx
 unfold jb eU;rw [hq];simp only [SQ]
 split
 ·rfl
 ·have:(T.length+1=(T++t :: R).length)↔R=[]:=by
   rw [Or,List.length_cons];constructor
   ·intro h;exact QL (by omega)
   ·intro h;rw [h];simp
  have e2:(T++t :: R)[T.length]?.getD aB=t:=by simp
  simp only [this,e2]
theorem we (h:rL N T K p s v) (hw:nw K=true) {k:Nat}{n m:Int}{E o:List Ev}{K2:List It}(hr:Ru t k K n E (.yes K2 m (E++o))) :
  nw K2=true/\(nD o (p,s)).1.map (·.1)=(bJ K2).reverse/\((nD o (p,s)).1.length<=1000->rL N (T++[t]) K2 (nD o (p,s)).1 (nD o (p,s)).2 (v++o++⟨2,0,t⟩ :: N T.length))/\(1000<(nD o (p,s)).1.length->∀R dz,Rb (T++t :: R) ce (ep 1 (tD N)) dz->dz.e=122/\dz.i=T.length):=by
 have go:∀R,∃x lst,mf (T++t :: R) (ce++[.lv 1]) (ep 1 (tD N)) (.fl x :: K2) ⟨T.length,(nD o (p,s)).1,(nD o (p,s)).2,lst,0,v++o,N⟩/\(∀m,x≠Fl.mt m)/\x.takes t=true:=by
  intro R;obtain ⟨lst,h1⟩:=h (t :: R);obtain ⟨_,x,o',e1,hx,hx2,h2⟩:=(Pd (L:=T++t :: R) hr _ sH hw).1 _ _ _ rfl;have e2:o'=o:=RJ e1.symm;subst e2;exact ⟨x,lst,h1.trans h2,hx,hx2⟩
 refine ⟨?_,?_,?_,?_⟩
 ·exact ((Pd (L:=T++[t]) hr ⟨T.length,p,s,[],0,v,N⟩ sH hw).1 _ _ _ rfl).1
 ·obtain ⟨x,lst,h2,hx,_⟩:=go [];obtain ⟨_,h3⟩:=o0 h2 rfl;obtain ⟨q,e1,e2⟩:=h3 [] [(1,1)] rfl rfl;simp at e1;rw [e1];exact e2
 ·intro hle R;obtain ⟨x,lst,h2,hx,hx2⟩:=go R;have h3:=h2.trans (iL hx K2);have h4:=yD (N:=N) (T:=T) (R:=R) (v:=v++o) hx2 (p:=(nD o (p,s)).1) (s:=(nD o (p,s)).2) (l:=lst);rw [Eq (by omega)] at h4;unfold jb at h4;rw [h4] at h3;refine ⟨if R=[] then (nD o (p,s)).1 else lst,?_⟩;rw [Qz T,Or];exact h3
 ·intro hgt R dz hb;obtain ⟨x,lst,h2,hx,hx2⟩:=go R;have h3:=h2.trans (iL hx K2);have h4:=yD (N:=N) (T:=T) (R:=R) (v:=v++o) hx2 (p:=(nD o (p,s)).1) (s:=(nD o (p,s)).2) (l:=lst);rw [IO hgt] at h4;unfold jb at h4;rw [h4] at h3;have h5:=kB (xu hb h3) (by show (122:Int)≠0;decide);obtain ⟨c1,c2,c3⟩:=qh (n:=1) (d:=dz);exact ⟨by rw [<-c1,h5],by rw [<-c2,h5]⟩
theorem Iq (h:mf L [] d [] d'):d'=d:=by cases h;rfl
def GU (K:List It):Prop:=K=[.lv 1]\/∃X,K=X++[.fl (.wd 6 [⟨#[46]⟩]),.lv 1]
theorem iX:GU (ce++[.lv 1]):=.inr ⟨[.fl (.wd 2 [⟨#[112,114,111,103,114,97,109]⟩]),.fl (.nm),.fl (.wd 6 [⟨#[59]⟩]),.fl (.mt .block)],rfl⟩
theorem sd {t:Tv}{K:List It}{R:Ro}(h:Ru t k K n E R):∀{L:List It}{m:Int}{F:List Ev},R=.yes L m F->GU K->GU L:=by
 induction h with
 |nil=>intro L m F h;cases h
 |ref _=>intro L m F h;cases h
 |tk hs=>
  rename_i i K n E
  intro L m F h hb;cases h
  rcases hb with hb|⟨X,hX⟩
  ·simp at hb;obtain ⟨rfl,rfl⟩:=hb;cases hs
  ·cases X with
   |nil=>simp at hX;exact .inl hX.2
   |cons j X=>simp at hX;exact .inr ⟨X,hX.2⟩
 |go hs hr ih=>
  rename_i k i K n d E o r R
  intro L m F h hb
  rcases hb with hb|⟨X,hX⟩
  ·simp at hb;obtain ⟨rfl,rfl⟩:=hb;cases hs;cases hr;cases h
  ·cases X with
   |nil=>
    simp at hX;obtain ⟨rfl,rfl⟩:=hX;simp only [It.step,Fl.step] at hs
    split at hs <;> cases hs
   |cons j X=>
    simp at hX;obtain ⟨rfl,rfl⟩:=hX;exact ih h (.inr ⟨r++X,by simp⟩)
theorem lF (h:rL N T K p s v) (hb2:GU K) (hb:Rb T ce (ep 1 (tD N)) dz):dz.i=T.length/\(K.length=1->dz.e=0/\dz.v=v)/\(K.length≠1->dz.e=121):=by
 obtain ⟨lst,h1⟩:=h [];have hb':Rb (T++[]) ce (ep 1 (tD N)) dz:=by rw [Q6];exact hb
 have h3:=xu hb' h1;obtain ⟨a,b,c⟩:=Ir h3 rfl zp;obtain ⟨c1,c2,c3⟩:=qh (n:=1) (d:=dz);rw [c2] at b;refine ⟨b,?_⟩
 rcases hb2 with rfl|⟨X,rfl⟩
 ·refine ⟨fun _=>?_,fun h=>absurd rfl h⟩;cases h3 with
  |step h4=>
   have h5:=Iq h4;have he:dz.e=0:=by rw [<-c1,h5];rfl
   refine ⟨he,?_⟩;have h6:=QM D.v h5;unfold mY at h6;rw [IO he] at h6;exact List.append_cancel_right h6
 ·refine ⟨fun h=>by simp at h,fun _=>?_⟩;have:=Bg aC h3 rfl X [.lv 1] rfl rfl zp;rw [c1] at this c;exact c.resolve_left this
end
end Go.Proofs.YtacohdpndpliaaaGreatDoor
