import Derived.Test.YtjiepkenkcgkhaaGreatDoorM17
set_option linter.unusedVariables false
set_option linter.unusedSimpArgs false
namespace Go.Proofs.YtjiepkenkcgkhaaGreatDoor
open Go.RowKit
variable {r K':List It}{n code q:Int}{k:Nat}{E o:List Ev}{i:It}{L:List Tv}{d d':D}{m:M}{ts:List ByteArray}
theorem jd {t:Tv}(hs:It.step t i=.ref) {k:Nat}{K:List It}{n:Int}{E:List Ev}{R:Ro}(h:Ru t k (i :: K) n E R):R=.no:=by
 cases h with
 |ref _=>rfl
 |tk h=>rw [hs] at h;cases h
 |go h _=>rw [hs] at h;cases h
theorem mS {t:Tv}(h:Fl.takes t (.wd q ts)=false):It.step t (.fl (.wd q ts))=.ref:=by
 simp [It.step,Fl.step,h]
theorem Dw {t:Tv}{d:Int}(hs:It.step t i=.go d o (.fl (.wd q ts) :: r)) (hq:(t.k == q)=false) {k:Nat}{K:List It}{n:Int}{E:List Ev}{R:Ro}(h:Ru t k (i :: K) n E R):R=.no:=by
 cases h with
 |ref _=>rfl
 |tk h=>rw [hs] at h;cases h
 |go h hr=>
  rw [hs] at h;cases h;exact jd (mS (by simp [Fl.takes,hq])) hr
theorem ux {t:Tv}{k:Dk}(hm:k.pick t=some m) (hk:(t.k == k.kd)=false) {j:Nat}{K:List It}{n:Int}{E:List Ev}{R:Ro}(h:Ru t j (.fl (.mt m) :: K) n E R):R=.no:=by
 cases k <;> simp only [Dk.pick] at hm <;> simp only [Dk.kd] at hk
 all_goals (repeat' (split at hm))
 all_goals first
  | (cases hm;done)
  | (cases hm;exact Dw rfl hk h)
theorem jh (he:d.e=0):ei n d=lC d [⟨1,n,aB⟩]:=by
 unfold ei;rw [IO he];rfl
theorem Ab {n:Int}{d:D}(he:d.e=0):mN n d=lC d [⟨3,n,aB⟩]:=by
 unfold mN;rw [IO he];rfl
theorem vS {t:Tv}(h1:m≠.kind) (h2:m≠.statement):cH (some t) m=M.row t m:=by
 cases m <;> first|rfl|exact absurd rfl h1|exact absurd rfl h2
theorem l9 (s:ByteArray):cd s=.ref\/∃nd r,cd s=.op nd (.fl (.wd 2 [s]) :: r):=by
 unfold cd
 repeat' split
 all_goals first
  |exact .inl rfl
  |exact .inr ⟨_,_,rfl⟩
theorem gH {t:Tv}(hn:cL L d=some t) {m:M}{dn:Int}{o:List Ev}{r:List It}(hs:It.step t (.fl (.mt m))=.go dn o r) (he:cH (some t) m=M.row t m):dst L (.fl (.mt m)) d=(r,lC d o):=by
 have hz:=(eH hn).1;simp only [dst,hn,he];simp only [It.step,Fl.step] at hs;cases hr:M.row t m with
 |ref=>rw [hr] at hs;cases hs
 |ex r'=>rw [hr] at hs;cases hs;simp only [iy]
 |op nd r'=>rw [hr] at hs;cases hs;simp only [jh hz]
theorem qO {t:Tv}{p:Pk}:bu (some t) p=Pk.pick t p\/∃k m,p=.fn k/\k.pick t=some m/\(t.k == k.kd)=false/\bu (some t) p=none:=by
 cases p with
 |fn k=>
  simp only [bu,Pk.pick]
  by_cases h:(t.k == k.kd)=true
  ·exact .inl (IO h)
  ·have h':(t.k == k.kd)=false:=by simpa using h
   rw [Eq h];cases hp:k.pick t with
   |none=>exact .inl rfl
   |some m=>exact .inr ⟨k,m,rfl,hp,h',rfl⟩
 |row r=>exact .inl rfl
 |ex m=>exact .inl rfl
theorem Gf {t:Tv}{k:Dk}(hm:k.pick t=some m) (hk:(t.k == k.kd)=false):bad k t:=by
 refine ⟨hk,fun e=>?_⟩;subst e;simp only [Dk.pick] at hm;cases h1:t.is [91] with
 |true=>rfl
 |false=>
  cases h2:t.is [46] with
  |true=>rfl
  |false=>
   cases h3:t.is [40] with
   |true=>rfl
   |false=>rw [h1,h2,h3] at hm;cases hm
theorem Db {t:Tv}(hn:cL L d=some t) {i:It}{dn:Int}{o:List Ev}{r:List It}(hs:It.step t i=.go dn o r) :
  dst L i d=(r,lC d o)\/((∀k K n E R,Ru t k (r++K) n E R->R=.no)/\(∀K,nw (i :: K)=true->jX L (i :: K) d)):=by
 have hz:=(eH hn).1;cases i with
 |fl x=>
  cases x with
  |mt m=>
   by_cases h1:m=.kind
   ·subst h1
    by_cases k1:(t.k == 1)=true
    ·refine .inl (gH hn hs ?_);have hk:t.k=1:=by simpa using k1
     simp [cH,M.row,wk,hk]
    ·have k1':(t.k == 1)=false:=by simpa using k1
     by_cases k2:(t.k == 2)=true
     ·have a1:wk 2 ⟨#[97,114,114,97,121]⟩ t=t.is [97,114,114,97,121]:=by rw [qv,k2,show (ByteArray.mk #[97,114,114,97,121]).toList=[97,114,114,97,121] by decide +kernel];rfl
      have a2:wk 2 ⟨#[114,101,99,111,114,100]⟩ t=t.is [114,101,99,111,114,100]:=by rw [qv,k2,show (ByteArray.mk #[114,101,99,111,114,100]).toList=[114,101,99,111,114,100] by decide +kernel];rfl
      by_cases b1:t.is [97,114,114,97,121]=true
      ·refine .inl (gH hn hs ?_);simp [cH,M.row,a1,b1,k1']
      ·by_cases b2:t.is [114,101,99,111,114,100]=true
       ·refine .inl (gH hn hs ?_);simp [cH,M.row,a1,a2,b1,b2,k1']
       ·simp [It.step,Fl.step,M.row,k1',b1,b2,Gw.sr] at hs
     ·have k2':(t.k == 2)=false:=by simpa using k2
      have a1:wk 2 ⟨#[97,114,114,97,121]⟩ t=false:=by simp only [wk,k2',TE]
      have a2:wk 2 ⟨#[114,101,99,111,114,100]⟩ t=false:=by simp only [wk,k2',TE]
      refine .inr ⟨?_,fun K _=>?_⟩
      ·intro k K n E R hR
       by_cases b1:t.is [97,114,114,97,121]=true
       ·simp only [It.step,Fl.step,M.row,k1',b1,Q8,R8,Td,Gw.sr] at hs;cases hs;exact jd (mS (by simp [Fl.takes,k2'])) hR
       ·by_cases b2:t.is [114,101,99,111,114,100]=true
        ·simp only [It.step,Fl.step,M.row,k1',b1,b2,Q8,R8,Td,Gw.sr] at hs;cases hs;exact jd (mS (by simp [Fl.takes,k2'])) hR
        ·simp [It.step,Fl.step,M.row,k1',b1,b2,Gw.sr] at hs
      ·have e:dst L (.fl (.mt .kind)) d=([.fl .nm,.lv 8],ei 8 d):=by
        simp only [dst,hn,cH,Option.elim,a1,a2,Q8,R8];rfl
       refine jX.step ?_ ?_
       ·rw [e];refine rX (t:=t) ?_ cP (by simp [Fl.takes,k1']);rw [jh hz];exact hn
       ·rw [e,jh hz];rfl
   ·by_cases h2:m=.statement
    ·subst h2
     by_cases k1:(t.k == 1)=true
     ·refine .inl (gH hn hs ?_);simp [cH,M.row,k1]
     ·have k1':(t.k == 1)=false:=by simpa using k1
      by_cases k2:(t.k == 2)=true
      ·refine .inl (gH hn hs ?_);simp [cH,M.row,k1',k2]
      ·have k2':(t.k == 2)=false:=by simpa using k2
       refine .inr ⟨?_,fun K _=>?_⟩
       ·intro k K n E R hR;simp only [It.step,Fl.step,M.row,k1',Q8,R8] at hs
        rcases l9 t.t with e|⟨nd,r',e⟩
        ·rw [e] at hs;cases hs
        ·rw [e] at hs;cases hs;exact jd (mS (by simp [Fl.takes,k2'])) hR
       ·have e:dst L (.fl (.mt .statement)) d=([],eM L false d):=by
         simp only [dst,hn,cH,k1',k2',Q8,R8]
        refine ⟨K,eM L false d,?_,?_,.inl ?_⟩
        ·refine .step ?_;rw [e];exact .refl
        ·simp [eM,hz,(eH hn).2.2]
        ·simp [eM,hz,(eH hn).2.2]
    ·exact .inl (gH hn hs (vS h1 h2))
  |_=>
   simp only [It.step,Fl.step] at hs
   split at hs <;> cases hs
 |lv n=>
  cases hs;exact .inl (by simp only [dst,Ab (n:=n) hz])
 |all r=>cases hs;exact .inl (by rw [iy];rfl)
 |once p=>
  rcases qO (t:=t) (p:=p) with e|⟨k,m,rfl,hm,hk,e⟩
  ·cases hs;refine .inl ?_;simp only [dst,hn,e,iy]
  ·refine .inr ⟨?_,fun K hK=>?_⟩
   ·intro j K n E R hR;simp only [It.step,Pk.pick,hm,SJ,Option.toList] at hs;cases hs;exact ux hm hk hR
   ·have hK':=nr hK;refine jX.step ?_ rfl;simp only [dst,hn,e];exact rO (Gf hm hk) K d (hK'.2.2.2 k rfl) hn
 |again p=>
  rcases qO (t:=t) (p:=p) with e|⟨k,m,rfl,hm,hk,e⟩
  ·cases hs;refine .inl ?_;simp only [dst,hn,e,iy]
  ·refine .inr ⟨?_,fun K hK=>?_⟩
   ·intro j K n E R hR;simp only [It.step,Pk.pick,hm,SJ,Gz] at hs;cases hs;exact ux hm hk hR
   ·have hK':=nr hK;refine jX.step ?_ rfl;simp only [dst,hn,e];exact rO (Gf hm hk) K d (hK'.2.2.2 k rfl) hn
theorem Pu {t:Tv}{L:List Tv}{k:Nat}{K:List It}{n:Int}{E:List Ev}{R:Ro}(h:Ru t k K n E R):∀(d:D),cL L d=some t->nw K=true ->
  (∀K2 m F,R=.yes K2 m F->nw K2=true/\∃x o,F=E++o/\(∀m,x≠Fl.mt m)/\x.takes t=true/\lV L K d (.fl x :: K2) (lC d o))/\(R=.no->jX L K d):=by
 induction h with
 |nil=>
  intro d hn _;exact ⟨(fun K2 m F e=>by cases e),fun _=>⟨[],d,.refl,rfl,.inr ⟨rfl,(eH hn).1⟩⟩⟩
 |ref hs=>
  rename_i i K n E
  intro d hn hw;refine ⟨(fun K2 m F e=>by cases e),fun _=>?_⟩;cases i with
  |fl x=>
   by_cases hx:∃m,x=.mt m
   ·obtain ⟨m,rfl⟩:=hx;have hz:=(eH hn).1
    have fin:cH (some t) m=.ref->jX L (.fl (.mt m) :: K) d:=fun e=>by
     refine ⟨K,eM L false d,?_,by simp [eM,hz,(eH hn).2.2],.inl (by simp [eM,hz,(eH hn).2.2])⟩;refine .step ?_;simp only [dst,hn,e];exact .refl
    by_cases h1:m=.kind
    ·subst h1;simp only [It.step,Fl.step,M.row] at hs
     by_cases k1:(t.k == 1)=true
     ·rw [IO k1] at hs;cases hs
     rw [Eq k1] at hs
     by_cases b1:t.is [97,114,114,97,121]=true
     ·rw [IO b1] at hs;cases hs
     rw [Eq b1] at hs
     by_cases b2:t.is [114,101,99,111,114,100]=true
     ·rw [IO b2] at hs;cases hs
     have a1:wk 2 ⟨#[97,114,114,97,121]⟩ t=false:=by
      rw [qv,show (ByteArray.mk #[97,114,114,97,121]).toList=[97,114,114,97,121] by decide +kernel];have:(t.t.toList == [97,114,114,97,121])=false:=by simpa [Tv.is] using b1
      rw [this,SX]
     have a2:wk 2 ⟨#[114,101,99,111,114,100]⟩ t=false:=by
      rw [qv,show (ByteArray.mk #[114,101,99,111,114,100]).toList=[114,101,99,111,114,100] by decide +kernel];have:(t.t.toList == [114,101,99,111,114,100])=false:=by simpa [Tv.is] using b2
      rw [this,SX]
     have e:dst L (.fl (.mt .kind)) d=([.fl .nm,.lv 8],ei 8 d):=by
      simp only [dst,hn,cH,Option.elim,a1,a2,Q8,R8];rfl
     refine jX.step ?_ ?_
     ·rw [e];refine rX (t:=t) ?_ cP (by simpa [Fl.takes] using k1);rw [jh hz];exact hn
     ·rw [e,jh hz];rfl
    ·by_cases h2:m=.statement
     ·subst h2;refine fin ?_;simp only [It.step,Fl.step,M.row] at hs
      by_cases k1:(t.k == 1)=true
      ·rw [IO k1] at hs;cases hs
      rw [Eq k1] at hs;simp only [cH,Eq k1]
      split
      ·rcases l9 t.t with e|⟨nd,r',e⟩
       ·exact e
       ·rw [e] at hs;cases hs
      ·rfl
     ·refine fin ?_;rw [vS h1 h2];simp only [It.step,Fl.step] at hs;cases hr:M.row t m with
      |ref=>rfl
      |ex r=>rw [hr] at hs;cases hs
      |op nd r=>rw [hr] at hs;cases hs
   ·refine rX hn (fun m e=>hx ⟨m,e⟩) ?_;cases x with
    |mt m=>exact absurd ⟨m,rfl⟩ hx
    |_=>
     simp only [It.step,Fl.step] at hs
     split at hs
     ·cases hs
     ·rename_i h;simpa using h
  |_=>cases hs
 |tk hs=>
  rename_i i K n E
  intro d hn hw;refine ⟨fun K2 m F e=>?_,(fun e=>by cases e)⟩;cases e;refine ⟨(nr hw).1,?_⟩;cases i with
  |fl x=>
   have hx:∀m,x≠.mt m:=by
    intro m e;subst e;simp only [It.step,Fl.step] at hs;cases hr:M.row t m <;> rw [hr] at hs <;> cases hs
   refine ⟨x,[],by simp,hx,?_,by rw [iy];exact .refl⟩;cases x with
   |mt m=>exact absurd rfl (hx m)
   |_=>
    simp only [It.step,Fl.step] at hs
    split at hs
    ·rename_i h;exact h
    ·cases hs
  |_=>cases hs
 |go hs hr ih=>
  rename_i k i K n dn E o r R
  intro d hn hw
  rcases Db hn hs with e|⟨e1,e2⟩
  ·have hw':=MV (L:=L) (d:=d) hw;have hn':cL L (lC d o)=some t:=hn;rw [e] at hw';obtain ⟨h1,h2⟩:=ih (lC d o) hn' hw';refine ⟨fun K2 m F eR=>?_,fun eR=>?_⟩
   ·obtain ⟨a,x,o2,b,c,f,g⟩:=h1 K2 m F eR;refine ⟨a,x,o++o2,by rw [b,QM],c,f,.step ?_⟩;rw [e,<-DU];exact g
   ·refine jX.step ?_ (by rw [e];rfl);rw [e];exact h2 eR
  ·have:=e1 _ _ _ _ _ hr;subst this;exact ⟨(fun K2 m F e=>by cases e),fun _=>e2 K hw⟩
inductive lW|live (K:List It) (n:Int)|stuck (e n:Int)|shut
def beg (K:List It) (n:Int):List It:=if n == 0 then bY++.lv 1 :: K else K
def gh (n:Int):Int:=if n == 0 then 1 else n
def bK (n:Int):List Ev:=if n == 0 then [⟨1,1,aB⟩] else []
inductive jG (t:Tv):lW->List Ev->Int->lW->Prop
 |shut:jG t .shut [] 4 .shut
 |stuck {e n:Int}:jG t (.stuck e n) [] e (.stuck e n)
 |note {K:List It} {n:Int}:(t.k == 7 || t.k == 8)=true->jG t (.live K n) (bK n++[⟨4,0,t⟩]) 0 (.live (beg K n) (gh n))
 |no {K:List It} {n:Int} {k:Nat}:(t.k == 7 || t.k == 8)=false->Ru t k (beg K n) (gh n) (bK n) .no->k<=(beg K n).length+20->jG t (.live K n) [] 120 (.stuck 120 n)
 |deep {K L:List It} {n m:Int} {E:List Ev} {k:Nat}:(t.k == 7 || t.k == 8)=false->Ru t k (beg K n) (gh n) (bK n) (.yes L m E)->k<=(beg K n).length+20->1000<m->jG t (.live K n) [] 122 (.stuck 122 n)
 |yes {K L:List It} {n m:Int} {E:List Ev} {k:Nat}:(t.k == 7 || t.k == 8)=false->Ru t k (beg K n) (gh n) (bK n) (.yes L m E)->k<=(beg K n).length+20->m<=1000->jG t (.live K n) (E++[⟨2,0,t⟩]) 0 (.live L m)
structure Lz (K:List It) (n:Int):Prop where
 wf:jQ K
 lv:((bJ K).length:Int)=n
 sn:(bJ K).length<=5000000
 sk:K.length<=500000
inductive wF:lW->List Ev->Int->Prop
 |shut:wF .shut [] 4
 |stuck {e n:Int}:wF (.stuck e n) [] e
 |all {K:List It} {n:Int}:K.length=1->wF (.live K n) [⟨3,1,aB⟩] 0
 |open {K:List It} {n:Int}:K.length≠1->wF (.live K n) [] 121
def Fl.ht:Fl->Nat
 |.mt .typed=>5
 |.mt .list=>3
 |_=>1
def rh:List Fl->Nat
 |[]=>0
 |x :: r=>max (x.ht+r.length) (rh r)
def Pk.ht:Pk->Nat
 |.row r=>rh r
 |.fn _=>1
 |.ex m=>(Fl.mt m).ht
def It.ht:It->Nat
 |.fl x=>x.ht
 |.lv _=>0
 |.once p=>max 1 p.ht
 |.again p=>1+max 1 p.ht
 |.all r=>max 1 (rh r)
def wi:List It->Nat
 |[]=>0
 |.lv _ :: _=>0
 |_ :: K=>1+wi K
def fb:List It->Prop
 |[]=>True
 |.lv _ :: K=>fb K
 |i :: K=>i.ht+wi K<=15/\fb K
theorem Fl.ht_pos (x:Fl):1<=x.ht:=by
 cases x with
 |mt m=>cases m <;> decide
 |_=>exact gt _
theorem It.ht_pos (i:It) (h:∀n,i≠.lv n):1<=i.ht:=by
 cases i with
 |fl x=>exact x.ht_pos
 |lv n=>exact absurd rfl (h n)
 |once p=>simp only [It.ht];omega
 |again p=>simp only [It.ht];omega
 |all r=>simp only [It.ht];omega
theorem kQ (h:∀n,i≠.lv n) (K:List It):wi (i :: K)=1+wi K:=by
 cases i with
 |lv n=>exact absurd rfl (h n)
 |_=>rfl
theorem eU (h:∀n,i≠.lv n) (K:List It):fb (i :: K)↔i.ht+wi K<=15/\fb K:=by
 cases i with
 |lv n=>exact absurd rfl (h n)
 |_=>exact Iff.rfl
theorem xN:∀{K:List It},fb K->wi K<=15
 |[],_=>QK _
 |i :: K,h=>by
  by_cases hl:∃n,i=.lv n
  ·obtain ⟨n,rfl⟩:=hl;exact QK _
  ·have hn:∀n,i≠.lv n:=fun n e=>hl ⟨n,e⟩
   have h1:=((eU hn K).1 h).1;have:=i.ht_pos hn;rw [kQ hn];omega
theorem sU:∀{K:List It},fb K->K.length<=16*(bJ K).length+wi K
 |[],_=>QK _
 |i :: K,h=>by
  by_cases hl:∃n,i=.lv n
  ·obtain ⟨n,rfl⟩:=hl;have h':fb K:=h;have:=sU h';have:=xN h';simp [bJ,wi];omega
  ·have hn:∀n,i≠.lv n:=fun n e=>hl ⟨n,e⟩
   have:=sU ((eU hn K).1 h).2
   have e:bJ (i :: K)=bJ K:=by
    cases i with
    |lv n=>exact absurd rfl (hn n)
    |_=>rfl
   rw [kQ hn,e];simp;omega
theorem MM (r:List Fl) (K:List It) (h:rh r+wi K<=15) (hK:fb K):fb (r.map It.fl++K)/\wi (r.map It.fl++K)=r.length+wi K:=by
 induction r with
 |nil=>exact ⟨hK,by simp⟩
 |cons x r ih=>
  simp only [rh] at h;obtain ⟨h1,h2⟩:=ih (by omega);refine ⟨(eU (fun n e=>by cases e) _).2 ⟨?_,h1⟩,?_⟩
  ·show x.ht+wi (r.map It.fl++K)<=15
   rw [h2];omega
  ·show wi (.fl x :: (r.map It.fl++K))=_
   rw [kQ (fun n e=>by cases e),h2,List.length_cons];omega
theorem yY {t:Tv}{p:Pk}(h:Pk.pick t p=some i):i.ht<=max 1 p.ht/\∀n,i≠.lv n:=by
 cases p with
 |fn d=>
  simp only [Pk.pick,Q9] at h;obtain ⟨m,hm,rfl⟩:=h;have:=nQ hm;refine ⟨?_,fun n e=>by cases e⟩
  rcases this with rfl|rfl|rfl|rfl|rfl|rfl|rfl <;> exact gt 1
 |row r=>
  simp only [Pk.pick] at h
  split at h
  ·cases h;exact ⟨gt _,fun n e=>by cases e⟩
  ·cases h
 |ex m=>
  simp only [Pk.pick] at h
  split at h
  ·cases h
  ·cases h;exact ⟨by show (Fl.mt m).ht<=max 1 (Fl.mt m).ht;omega,fun n e=>by cases e⟩
def Gw.fb (m:M):Gw->Prop
 |.ref=>True
 |.ex r=>∀K,(Fl.mt m).ht+wi K<=15->Go.Proofs.YtjiepkenkcgkhaaGreatDoor.fb K->Go.Proofs.YtjiepkenkcgkhaaGreatDoor.fb (r++K)
 |.op nd r=>∀K,Go.Proofs.YtjiepkenkcgkhaaGreatDoor.fb K->Go.Proofs.YtjiepkenkcgkhaaGreatDoor.fb (r++.lv nd :: K)
theorem LV (t:Tv) (m:M):(M.row t m).fb m:=by
 cases m <;> simp only [M.row,cd] <;> (repeat' split) <;> simp [Gw.fb,fb,wi,It.ht,Fl.ht,Pk.ht,rh]
 all_goals (intro K h1 h2;simp only [h2,and_true];omega)
theorem rJ {t:Tv}{d:Int}{K:List It}(h:It.step t i=.go d o r) (hf:fb (i :: K)):fb (r++K):=by
 cases i with
 |fl x=>
  obtain ⟨h1,h2⟩:=(eU (fun n e=>by cases e) K).1 hf
  have hm:∃m,x=.mt m:=by
   cases x with
   |mt m=>exact ⟨m,rfl⟩
   |_=>simp only [It.step,Fl.step] at h;split at h <;> cases h
  obtain ⟨m,rfl⟩:=hm;have hr:=LV t m;simp only [It.step,Fl.step] at h;cases hrow:M.row t m with
  |ref=>rw [hrow] at h;cases h
  |ex r'=>rw [hrow] at h hr;cases h;exact hr K h1 h2
  |op nd r'=>rw [hrow] at h hr;cases h;rw [QM];exact hr K h2
 |lv n=>cases h;exact hf
 |once p=>
  obtain ⟨h1,h2⟩:=(eU (fun n e=>by cases e) K).1 hf;simp only [It.step] at h;cases hp:Pk.pick t p with
  |none=>rw [hp] at h;cases h;exact h2
  |some j=>
   rw [hp] at h;cases h;obtain ⟨a,b⟩:=yY hp;exact (eU b K).2 ⟨by simp only [It.ht] at h1;omega,h2⟩
 |again p=>
  have hn:∀n,It.again p≠.lv n:=fun n e=>by cases e
  obtain ⟨h1,h2⟩:=(eU hn K).1 hf;simp only [It.step] at h;cases hp:Pk.pick t p with
  |none=>rw [hp] at h;cases h;exact h2
  |some j=>
   rw [hp] at h;cases h;obtain ⟨a,b⟩:=yY hp;refine (eU b _).2 ⟨?_,hf⟩;show j.ht+wi (.again p :: K)<=15;rw [kQ hn];simp only [It.ht] at h1;omega
 |all r'=>
  obtain ⟨h1,h2⟩:=(eU (fun n e=>by cases e) K).1 hf;cases h;exact (MM r' K (by simp only [It.ht] at h1;omega) h2).1
def cB:List Int->List Ev->Option (List Int)
 |s,[]=>some s
 |s,e :: r=>if e.k=1 then cB (e.n :: s) r else if e.k=3 then (match s with|n :: s'=>if n=e.n then cB s' r else none|[]=>none) else cB s r
theorem dG:∀(a b:List Ev) (s s':List Int),cB s a=some s'->cB s (a++b)=cB s' b
 |[],b,s,s',h=>by cases h;rfl
 |e :: r,b,s,s',h=>by
  simp only [cB,Rh] at h ⊢
  split
  ·rename_i h1;rw [IO h1] at h;exact dG r b _ _ h
  ·rename_i h1
   rw [Eq h1] at h
   split
   ·rename_i h2
    rw [IO h2] at h;cases s with
    |nil=>cases h
    |cons n s=>
     simp only at h ⊢
     split
     ·rename_i h3;rw [IO h3] at h;exact dG r b _ _ h
     ·rename_i h3;rw [Eq h3] at h;cases h
   ·rename_i h2;rw [Eq h2] at h;exact dG r b _ _ h
theorem lq {t:Tv}{i:It}{d:Int}{o:List Ev}{r K:List It}(h:It.step t i=.go d o r) (hi:i.wf):cB (bJ (i :: K)) o=some (bJ (r++K)):=by
 have hk:=fF (K:=K) h hi;cases i with
 |fl x=>
  have hm:∃m,x=.mt m:=by
   cases x with
   |mt m=>exact ⟨m,rfl⟩
   |_=>simp only [It.step,Fl.step] at h;split at h <;> cases h
  obtain ⟨m,rfl⟩:=hm;have hr:=gV t m;simp only [It.step,Fl.step] at h;cases hrow:M.row t m with
  |ref=>rw [hrow] at h;cases h
  |ex r'=>rw [hrow] at h hr;cases h;rw [bM,hr.2.2];rfl
  |op nd r'=>rw [hrow] at h hr;cases h;rw [bM,bM,hr.2.2.1];rfl
 |lv n=>cases h;simp [cB,bJ]
 |once p=>
  simp only [It.step] at h;cases hp:Pk.pick t p with
  |none=>rw [hp] at h;cases h;rfl
  |some j=>rw [hp] at h;cases h;show some (bJ K)=some (bJ ([j]++K));rw [bM,(ng hi hp).2];rfl
 |again p=>
  simp only [It.step] at h;cases hp:Pk.pick t p with
  |none=>rw [hp] at h;cases h;rfl
  |some j=>rw [hp] at h;cases h;show some (bJ K)=some (bJ ([j]++([.again p]++K)));rw [bM,(ng hi hp).2];rfl
 |all r'=>cases h;rw [bM,jS];rfl
structure Ok (K:List It) (n:Int):Prop where
 wf:jQ K
 fb:fb K
 lv:((bJ K).length:Int)=n
 le:n<=1000
theorem Ok.lz {K:List It}(h:Ok K n):Lz K n:=by
 have h1:=h.lv;have h2:=h.le;have h3:=sU h.fb;have h4:=xN h.fb;exact ⟨h.wf,h.lv,by omega,by omega⟩
theorem eu {t:Tv}{K:List It}{R:Ro}(h:Ru t k K n E R):∀{L:List It}{m:Int}{F:List Ev},R=.yes L m F->jQ K->fb K->((bJ K).length:Int)=n ->
  jQ L/\fb L/\((bJ L).length:Int)=m/\∃o,F=E++o/\cB (bJ K) o=some (bJ L)/\(∀e∈o,e.d=aB/\(e.k=1\/e.k=3)/\(e.k=1->e.n≠1))/\o.length<=k:=by
 induction h with
 |nil=>intro L m F h;cases h
 |ref _=>intro L m F h;cases h
 |tk hs=>
  rename_i i K n E
  intro L m F h hw hf hn;cases h;have hl:∀a,i≠.lv a:=fun a e=>by subst e;cases hs
  have e:bJ (i :: K)=bJ K:=by
   cases i with
   |lv a=>exact absurd rfl (hl a)
   |_=>rfl
  rw [e] at hn;exact ⟨fun j hj=>hw j (QO _ hj),((eU hl K).1 hf).2,hn,[],by simp,by rw [e];rfl,fun x hx=>by simp at hx,QK _⟩
 |go hs _ ih=>
  rename_i k i K n d E o r R _
  intro L m F h hw hf hn;have hi:=hw i (QN ..);obtain ⟨a1,a2,a3,a4⟩:=fF (K:=K) hs hi;obtain ⟨b1,b2,b3,o2,b4,b5,b6,b7⟩:=ih h (fD a1 (fun j hj=>hw j (QO _ hj))) (rJ hs hf) (by omega);refine ⟨b1,b2,b3,o++o2,by rw [b4,QM],(dG o o2 _ _ (lq hs hi)).trans b5,?_,by simp;omega⟩;intro x hx
  rcases Q6.1 hx with hx|hx
  ·cases i with
   |fl y=>
    have hm:∃m,y=.mt m:=by
     cases y with
     |mt m=>exact ⟨m,rfl⟩
     |_=>simp only [It.step,Fl.step] at hs;split at hs <;> cases hs
    obtain ⟨mm,rfl⟩:=hm;have hr:=gV t mm;simp only [It.step,Fl.step] at hs;cases hrow:M.row t mm with
    |ref=>rw [hrow] at hs;cases hs
    |ex r'=>rw [hrow] at hs;cases hs;simp at hx
    |op nd r'=>rw [hrow] at hs hr;cases hs;simp at hx;subst hx;exact ⟨rfl,.inl rfl,fun _=>by have:=hr.2.2.2.1;show nd≠1;omega⟩
   |lv a=>cases hs;simp at hx;subst hx;exact ⟨rfl,.inr rfl,fun e=>by cases e⟩
   |once p=>cases hs;simp at hx
   |again p=>cases hs;simp at hx
   |all r'=>cases hs;simp at hx
  ·exact b6 x hx
theorem Mj {K:List It}(h:Ok K n) (h0:n=0->K=[]):jQ (beg K n)/\fb (beg K n)/\((bJ (beg K n)).length:Int)=gh n/\cB (bJ K) (bK n)=some (bJ (beg K n))/\(beg K n).length<=20000:=by
 have hz:=h.lz;have h3:=sU h.fb;have h4:=xN h.fb;have h1:=h.lv;have h2:=h.le
 by_cases hn:n=0
 ·obtain rfl:=h0 hn;subst hn;refine ⟨?_,?_,rfl,rfl,by simp [beg,bY]⟩
  ·intro i hi;simp [beg,bY] at hi
   rcases hi with rfl|rfl|rfl|rfl|rfl|rfl <;> trivial
  ·simp [beg,bY,fb,It.ht,Fl.ht,wi]
 ·have hb:(n == 0)=false:=by simpa using hn
  simp only [beg,gh,bK,hb,Q8,R8];exact ⟨h.wf,h.fb,h.lv,rfl,by omega⟩
def NB (K:List It):Prop:=∃X,K=X++[.lv 1]
theorem oI {t:Tv}{K:List It}{R:Ro}(h:Ru t k K n E R):∀{L:List It}{m:Int}{F:List Ev},R=.yes L m F->NB K->NB L:=by
 induction h with
 |nil=>intro L m F h;cases h
 |ref _=>intro L m F h;cases h
 |tk hs=>
  rename_i i K n E
  intro L m F h hb;cases h;obtain ⟨X,hX⟩:=hb;cases X with
  |nil=>simp at hX;obtain ⟨rfl,rfl⟩:=hX;cases hs
  |cons j X=>simp at hX;exact ⟨X,hX.2⟩
 |go hs hr ih=>
  rename_i k i K n d E o r R
  intro L m F h hb;obtain ⟨X,hX⟩:=hb;cases X with
  |nil=>
   simp at hX;obtain ⟨rfl,rfl⟩:=hX;cases hs;cases hr;cases h
  |cons j X=>
   simp at hX;obtain ⟨rfl,rfl⟩:=hX;exact ih h ⟨r++X,by simp⟩
theorem iT {K:List It}(h:NB K):1<=(bJ K).length:=by
 obtain ⟨X,rfl⟩:=h;rw [bM];simp [bJ]
def fX:lW->Prop
 |.live K n=>Ok K n/\((n=0/\K=[])\/NB K)
 |.stuck e n=>e=120\/e=122
 |.shut=>True
theorem fj:fX (.live [] 0):=⟨⟨gT,trivial,rfl,by decide⟩,.inl ⟨rfl,rfl⟩⟩
def lW.path:lW->List Int
 |.live K _=>bJ K
 |_=>[]
theorem cG {K:List It}(h:fX (.live K n)):jQ (beg K n)/\fb (beg K n)/\((bJ (beg K n)).length:Int)=gh n/\cB (bJ K) (bK n)=some (bJ (beg K n))/\(beg K n).length<=20000/\NB (beg K n)/\gh n<=1000/\(bK n).length<=1:=by
 have hn0:n=0->K=[]:=by
  intro e
  rcases h.2 with h2|h2
  ·exact h2.2
  ·have:=iT h2;have:=h.1.lv;omega
 obtain ⟨b1,b2,b3,b4,b5⟩:=Mj h.1 hn0;have hle:=h.1.le;refine ⟨b1,b2,b3,b4,b5,?_,by unfold gh;split <;> omega,by unfold bK;split <;> simp⟩
 by_cases e:n=0
 ·obtain rfl:=hn0 e;subst e;exact ⟨bY,by simp [beg]⟩
 ·rcases h.2 with h2|h2
  ·exact absurd h2.1 e
  ·have hb:(n == 0)=false:=by simpa using e
   simp only [beg,hb,Q8,R8];exact h2
theorem dF {st st':lW}{t:Tv}{ev:List Ev}(h:fX st) (hp:jG t st ev code st'):fX st'/\ev.length<=30000/\(code=0->∃K n,st'=.live K n/\NB K)/\(code=0->cB st.path ev=some st'.path):=by
 cases hp with
 |shut=>exact ⟨trivial,by simp,fun h=>(by cases h),fun h=>(by cases h)⟩
 |stuck=>exact ⟨h,by simp,fun h0=>(by subst h0;rcases h with h|h <;> cases h),fun h0=>(by subst h0;rcases h with h|h <;> cases h)⟩
 |note hc=>
  obtain ⟨b1,b2,b3,b4,b5,hbot,hbn,hbe⟩:=cG h;refine ⟨⟨⟨b1,b2,b3,hbn⟩,.inr hbot⟩,by simp;omega,fun _=>⟨_,_,rfl,hbot⟩,fun _=>?_⟩;refine (dG _ _ _ _ b4).trans ?_;simp [cB];rfl
 |no hc hR hk=>exact ⟨.inl rfl,by simp,fun h=>(by cases h),fun h=>(by cases h)⟩
 |deep hc hR hk hm=>exact ⟨.inr rfl,by simp,fun h=>(by cases h),fun h=>(by cases h)⟩
 |yes hc hR hk hm=>
  obtain ⟨b1,b2,b3,b4,b5,hbot,hbn,hbe⟩:=cG h;obtain ⟨c1,c2,c3,o,c4,c5,c6,c7⟩:=eu hR rfl b1 b2 b3;have hL:=oI hR rfl hbot;refine ⟨⟨⟨c1,c2,c3,by omega⟩,.inr hL⟩,by rw [c4];simp;omega,fun _=>⟨_,_,rfl,hL⟩,fun _=>?_⟩;rw [c4,QM];refine (dG _ _ _ _ b4).trans ((dG _ _ _ _ c5).trans ?_);simp [cB];rfl
theorem L8 {st:lW}(h:fX st) (t:Tv):∃ev code st',jG t st ev code st':=by
 cases st with
 |shut=>exact ⟨_,_,_,.shut⟩
 |stuck e n=>exact ⟨_,_,_,.stuck⟩
 |live K n=>
  obtain ⟨b1,b2,b3,b4,b5,hbot,hbn,hbe⟩:=cG h
  by_cases hc:(t.k == 7 || t.k == 8)=true
  ·exact ⟨_,_,_,.note hc⟩
  ·have hc':(t.k == 7 || t.k == 8)=false:=by simpa using hc
   obtain ⟨k,R,hk,hR⟩:=KB t (beg K n) b1 (gh n) (bK n);cases R with
   |no=>exact ⟨_,_,_,.no hc' hR hk⟩
   |yes L m F=>
    by_cases hm:1000<m
    ·exact ⟨_,_,_,.deep hc' hR hk hm⟩
    ·exact ⟨_,_,_,.yes hc' hR hk (by omega)⟩
theorem FX (st:lW):∃ev code,wF st ev code/\ev.length<=1:=by
 cases st with
 |live K n=>
  by_cases h:K.length=1
  ·exact ⟨_,_,.all h,by simp⟩
  ·exact ⟨_,_,.open h,by simp⟩
 |stuck e n=>exact ⟨_,_,.stuck,by simp⟩
 |shut=>exact ⟨_,_,.shut,by simp⟩
inductive gA:lW->List Tv->List Ev->Int->Nat->Prop
 |nil {st:lW} {ev:List Ev} {code:Int}:wF st ev code->gA st [] ev code 0
 |err {st st':lW} {t:Tv} {l:List Tv} {ev:List Ev} {code:Int}:jG t st ev code st'->code≠0->gA st (t :: l) [] code 0
 |on {st st':lW} {t:Tv} {l:List Tv} {ev E:List Ev} {code:Int} {k:Nat}:jG t st ev 0 st'->gA st' l E code k->gA st (t :: l) (ev++E) code (k+1)
theorem Gv:∀(l:List Tv) (st:lW),fX st->∃E code k,gA st l E code k
 |[],st,h=>by
  obtain ⟨ev,code,h1,_⟩:=FX st;exact ⟨_,_,_,.nil h1⟩
 |t :: l,st,h=>by
  obtain ⟨ev,code,st',h1⟩:=L8 h t;have h2:=(dF h h1).1
  by_cases hc:code=0
  ·subst hc;obtain ⟨E,c,k,h3⟩:=Gv l st' h2;exact ⟨_,_,_,.on h1 h3⟩
  ·exact ⟨_,_,_,.err h1 hc⟩
theorem gA.inv {st:lW}{t:Tv}{l:List Tv}(h:gA st (t :: l) E code k):(∃ev st',jG t st ev code st'/\code≠0/\E=[]/\k=0)\/(∃ev st' E2 k2,jG t st ev 0 st'/\gA st' l E2 code k2/\E=ev++E2/\k=k2+1):=by
 cases h with
 |err h1 h2=>exact .inl ⟨_,_,h1,h2,rfl,rfl⟩
 |on h1 h2=>exact .inr ⟨_,_,_,_,h1,h2,rfl,rfl⟩
theorem gA.end {st:lW}(h:gA st [] E code k):wF st E code/\k=0:=by
 cases h with
 |nil h1=>exact ⟨h1,rfl⟩
inductive wN (t:Tv):List It->Prop
 |fl {x:Fl} {K:List It}:wN t (.fl x :: K)
 |all {r:List Fl} {K:List It}:Kz r->wN t (.all r :: K)
 |onceS {p:Pk} {i:It} {K:List It}:Pk.pick t p=some i->wN t (.once p :: K)
 |againS {p:Pk} {i:It} {K:List It}:Pk.pick t p=some i->wN t (.again p :: K)
 |onceN {p:Pk} {K:List It}:Pk.pick t p=none->wN t K->wN t (.once p :: K)
 |againN {p:Pk} {K:List It}:Pk.pick t p=none->wN t K->wN t (.again p :: K)
def Gw.cm (t:Tv):Gw->Prop
 |.ref=>True
 |.ex r=>∀K,wN t (r++K)
 |.op nd r=>∀K,wN t (r++K)
theorem FV (t:Tv) (p:Pk) (x:Fl) (K:List It):wN t (.again p :: .fl x :: K):=by
 cases h:Pk.pick t p with
 |none=>exact .againN h .fl
 |some i=>exact .againS h
theorem LW (t:Tv) (m:M):(M.row t m).cm t:=by
 cases m <;> simp only [M.row,cd] <;> (repeat' split)
 all_goals first
  |trivial
  | (intro K;exact .fl)
  | (intro K;exact FV t _ _ _)
theorem uN {t:Tv}{p:Pk}(hp:p.wf) {i:It}(h:Pk.pick t p=some i) (K:List It):wN t (i :: K):=by
 cases p with
 |fn d=>
  simp only [Pk.pick,Q9] at h;obtain ⟨m,_,rfl⟩:=h;exact .fl
 |row r=>
  simp only [Pk.pick] at h
  split at h
  ·cases h;exact .all hp
  ·cases h
 |ex m=>
  simp only [Pk.pick] at h
  split at h
  ·cases h
  ·cases h;exact .fl
theorem uj {t:Tv}{d:Int}{K:List It}(h:It.step t i=.go d o r) (hi:i.wf) (hc:wN t (i :: K)):wN t (r++K)/\(∀e∈o,e.k=1)/\0<=d:=by
 cases i with
 |fl x=>
  have hm:∃m,x=.mt m:=by
   cases x with
   |mt m=>exact ⟨m,rfl⟩
   |_=>simp only [It.step,Fl.step] at h;split at h <;> cases h
  obtain ⟨m,rfl⟩:=hm;have hr:=LW t m;simp only [It.step,Fl.step] at h;cases hrow:M.row t m with
  |ref=>rw [hrow] at h;cases h
  |ex r'=>rw [hrow] at h hr;cases h;exact ⟨hr K,fun e he=>by simp at he,by omega⟩
  |op nd r'=>rw [hrow] at h hr;cases h;rw [QM];exact ⟨hr _,fun e he=>by simp at he;subst he;rfl,by omega⟩
 |lv n=>cases hc
 |once p=>
  simp only [It.step] at h;cases hp:Pk.pick t p with
  |none=>
   rw [hp] at h;cases h;cases hc with
   |onceS h2=>rw [hp] at h2;cases h2
   |onceN _ h2=>exact ⟨h2,fun e he=>by simp at he,by omega⟩
  |some j=>rw [hp] at h;cases h;exact ⟨uN hi hp K,fun e he=>by simp at he,by omega⟩
 |again p=>
  simp only [It.step] at h;cases hp:Pk.pick t p with
  |none=>
   rw [hp] at h;cases h;cases hc with
   |againS h2=>rw [hp] at h2;cases h2
   |againN _ h2=>exact ⟨h2,fun e he=>by simp at he,by omega⟩
  |some j=>rw [hp] at h;cases h;exact ⟨uN hi hp _,fun e he=>by simp at he,by omega⟩
 |all r'=>
  cases h;obtain ⟨⟨k,ts,rest,rfl⟩,_⟩:=hi;exact ⟨.fl,fun e he=>by simp at he,by omega⟩
theorem Dv {t:Tv}{K:List It}{R:Ro}(h:Ru t k K n E R):∀{L:List It}{m:Int}{F:List Ev},R=.yes L m F->jQ K->wN t K->∃o,F=E++o/\(∀e∈o,e.k=1):=by
 induction h with
 |nil=>intro L m F h;cases h
 |ref _=>intro L m F h;cases h
 |tk hs=>intro L m F h _ _;cases h;exact ⟨[],by simp,fun e he=>by simp at he⟩
 |go hs _ ih=>
  rename_i k i K n d E o r R _
  intro L m F h hw hc;have hi:=hw i (QN ..);obtain ⟨a1,a2,a3⟩:=uj hs hi hc;obtain ⟨o2,b1,b2⟩:=ih h (fD (fF (K:=K) hs hi).1 (fun j hj=>hw j (QO _ hj))) a1;exact ⟨o++o2,by rw [b1,QM],fun e he=>(Q6.1 he).elim (a2 e) (b2 e)⟩
theorem Du {t:Tv}{K:List It}{R:Ro}(h:Ru t k K n E R):∀{L:List It}{m:Int}{F:List Ev},R=.yes L m F->jQ K->∃c o,F=E++(c++o)/\(∀e∈c,e.k=3)/\(∀e∈o,e.k=1):=by
 induction h with
 |nil=>intro L m F h;cases h
 |ref _=>intro L m F h;cases h
 |tk hs=>intro L m F h _;cases h;exact ⟨[],[],by simp,fun e he=>by simp at he,fun e he=>by simp at he⟩
 |go hs hr ih=>
  rename_i k i K n d E o r R
  intro L m F h hw;have hi:=hw i (QN ..);have hw2:=fD (fF (K:=K) hs hi).1 (fun j hj=>hw j (QO _ hj))
  by_cases hl:∃a,i=.lv a
  ·obtain ⟨a,rfl⟩:=hl;cases hs;obtain ⟨c,o2,b1,b2,b3⟩:=ih h hw2;exact ⟨⟨3,a,aB⟩ :: c,o2,by rw [b1];simp,fun e he=>(Rg.1 he).elim (fun e1=>by rw [e1]) (b2 e),b3⟩
  ·
   by_cases hc:wN t (i :: K)
   ·obtain ⟨a1,a2,a3⟩:=uj hs hi hc;obtain ⟨o2,b1,b2⟩:=Dv hr h hw2 a1;exact ⟨[],o++o2,by rw [b1];simp,fun e he=>by simp at he,fun e he=>(Q6.1 he).elim (a2 e) (b2 e)⟩
   ·have ho:o=[]:=by
     cases i with
     |fl x=>exact absurd .fl hc
     |lv a=>exact absurd ⟨a,rfl⟩ hl
     |once p=>cases hs;rfl
     |again p=>cases hs;rfl
     |all r'=>cases hs;rfl
    subst ho;obtain ⟨c,o2,b1,b2,b3⟩:=ih h hw2;exact ⟨c,o2,by rw [b1];simp,b2,b3⟩
def ii (t:Tv):Bool:=t.k == 7 || t.k == 8
theorem oF {t:Tv}{K:List It}{R:Ro}(h:Ru t k K n E R) :
  (R=.no->∀E',Ru t k K n E' .no)/\(∀L m F,R=.yes L m F->∃o,F=E++o/\∀E',Ru t k K n E' (.yes L m (E'++o))):=by
 induction h with
 |nil=>exact ⟨fun _ E'=>.nil,fun L m F e=>by cases e⟩
 |ref hs=>exact ⟨fun _ E'=>.ref hs,fun L m F e=>by cases e⟩
 |tk hs=>
  refine ⟨(fun e=>by cases e),fun L m F e=>?_⟩;cases e;exact ⟨[],by simp,fun E'=>by simpa using Ru.tk hs⟩
 |go hs hr ih=>
  refine ⟨fun e E'=>.go hs (ih.1 e _),fun L m F e=>?_⟩;obtain ⟨o2,rfl,h2⟩:=ih.2 L m F e;refine ⟨_,(QM ..),fun E'=>.go hs ?_⟩;rw [<-QM];exact h2 _
def tf (N:Nat->List Ev):D:=⟨0,[],0,[],0,[],N⟩
theorem KR (N:Nat->List Ev):ei 1 (tf N)=⟨0,[(1,1)],1,[],0,[⟨1,1,aB⟩],N⟩:=rfl
theorem Ft {L:List Tv}{i:It}{d:D}(h:d.e≠0):(dst L i d).2=d:=by
 have hn:cL L d=none:=by unfold cL;rw [Eq h]
 have hq:∀f,qn L d f=false:=fun f=>by unfold qn;rw [hn];rfl
 have ht:eM L false d=d:=by simp [eM,h]
 cases i with
 |fl x=>
  cases x with
  |mt m=>
   simp only [dst];cases cH (cL L d) m with
   |ref=>exact ht
   |ex r=>rfl
   |op nd r=>exact uS h
  |_=>simp only [dst,hq];exact ht
 |lv n=>exact wm h
 |_=>rfl
theorem kv {K:List It}(h:lV L K d K' d') (he:d.e≠0):d'=d:=by
 induction h with
 |refl=>rfl
 |step _ ih=>
  rename_i i K K' d d' _
  have:=Ft (L:=L) (i:=i) he;rw [this] at ih;exact ih he
theorem zP {L:List Tv}{i:It}{d:D}(he:d.e=0) (hn:cL L d=none):(dst L i d).2.l=d.l/\(dst L i d).2.i=d.i/\(((dst L i d).2.e=0/\cL L (dst L i d).2=none)\/(dst L i d).2.e=121):=by
 have hi:¬d.i<L.length:=by
  intro h;unfold cL at hn;rw [IO he,Pi h] at hn;cases hn
 have hq:∀f,qn L d f=false:=fun f=>by unfold qn;rw [hn];rfl
 have ht:eM L false d={ d with e:=121 }:=by simp [eM,he,hi]
 cases i with
 |fl x=>
  cases x with
  |mt m=>
   simp only [dst];cases cH (cL L d) m with
   |ref=>simp only [ht];exact ⟨trivial,trivial,.inr trivial⟩
   |ex r=>exact ⟨rfl,rfl,.inl ⟨he,hn⟩⟩
   |op nd r=>
    simp only;rw [jh he];exact ⟨rfl,rfl,.inl ⟨he,hn⟩⟩
  |_=>simp only [dst,hq,ht];exact ⟨trivial,trivial,.inr trivial⟩
 |lv n=>
  simp only [dst];rw [Ab (n:=n) he];exact ⟨rfl,rfl,.inl ⟨he,hn⟩⟩
 |_=>exact ⟨rfl,rfl,.inl ⟨he,hn⟩⟩
theorem In {K:List It}(h:lV L K d K' d') (he:d.e=0) (hn:cL L d=none):d'.l=d.l/\d'.i=d.i/\(d'.e=0\/d'.e=121):=by
 induction h with
 |refl=>exact ⟨rfl,rfl,.inl he⟩
 |step hr ih=>
  rename_i i K K' d d'
  obtain ⟨a,b,c⟩:=zP (i:=i) he hn
  rcases c with ⟨c1,c2⟩|c
  ·grind
  ·have:=kv hr (by rw [c];decide);rw [this];exact ⟨a,b,.inr c⟩
theorem A8 {x:Fl}(hx:∀m,x≠.mt m) {K K':List It}{d d':D}(h:lV L K d K' d'):K'=[]->∀(X Y:List It),K=X++.fl x :: Y->d.e=0->cL L d=none->d'.e≠0:=by
 induction h with
 |refl=>intro e X Y e2;rw [e] at e2;cases X <;> cases e2
 |step hr ih=>
  rename_i i K K' d d'
  intro e X Y e2 he hn;obtain ⟨a,b,c⟩:=zP (i:=i) he hn
  rcases c with ⟨c1,c2⟩|c
  ·cases X with
   |nil=>
    simp at e2;obtain ⟨rfl,rfl⟩:=e2
    exfalso
    have e3:dst L (.fl x) d=([],eM L (qn L d (fun t=>x.takes t)) d):=by
     cases x with
     |mt m=>exact absurd rfl (hx m)
     |_=>rfl
    rw [e3] at c1;have hq:qn L d (fun t=>x.takes t)=false:=by unfold qn;rw [hn];rfl
    rw [hq] at c1;exact absurd (ou c1).1 (by decide)
   |cons j X=>
    simp at e2;obtain ⟨rfl,rfl⟩:=e2;exact ih e ((dst L i d).1++X) Y (by simp) c1 c2
  ·have:=kv hr (by rw [c];decide);rw [this,c]
   decide
def rA (N:Nat->List Ev) (T:List Tv) (K:List It) (p:List (Int × Nat)) (s:Nat) (v:List Ev):Prop:=∀R,∃lst,lV (T++R) (bY++[.lv 1]) (ei 1 (tf N)) K ⟨T.length,p,s,lst,0,v,N⟩
theorem rj (N:Nat->List Ev):rA N [] (bY++[.lv 1]) [(1,1)] 1 [⟨1,1,aB⟩]:=fun R=>⟨[],.refl⟩
section
variable {N:Nat->List Ev} {T R:List Tv} {K:List It} {p:List (Int × Nat)} {s:Nat} {l:List (Int × Nat)} {v:List Ev} {t:Tv} {dz:D}
theorem su:cL (T++t :: R) ⟨T.length,p,s,l,0,v,N⟩=some t:=by simp [cL]
theorem zh:cL (T++[]) ⟨T.length,p,s,l,0,v,N⟩=none:=by simp [cL]
theorem xk (h:Rb L bY (ei 1 (tf N)) dz) {K:List It}{d:D}(h':lV L (bY++[.lv 1]) (ei 1 (tf N)) K d):lV L K d [] (mN 1 dz):=h'.det ((h [.lv 1]).trans (.step .refl))
theorem pS {n:Int}{d:D}:(mN n d).e=d.e/\(mN n d).i=d.i/\(mN n d).l=d.l:=by unfold mN;split <;> exact ⟨rfl,rfl,rfl⟩
theorem L5 (h:rA N T K p s v) (hw:nw K=true) {k:Nat}{n:Int}{E:List Ev}(hr:Ru t k K n E .no) (hb:Rb (T++t :: R) bY (ei 1 (tf N)) dz):dz.i=T.length/\(dz.e=120\/dz.e=0):=by
 obtain ⟨lst,h1⟩:=h (t :: R);obtain ⟨K',d2,h2,hi,h3⟩:=(Pu (L:=T++t :: R) hr _ su hw).2 rfl;have h4:=xk hb (h1.trans h2);obtain ⟨c1,c2,c3⟩:=pS (n:=1) (d:=dz)
 rcases h3 with h3|⟨rfl,h5⟩
 ·have h7:=kv h4 (by rw [h3];decide);exact ⟨by rw [<-c2,h7,hi],.inl (by rw [<-c1,h7,h3])⟩
 ·cases h4;exact ⟨by rw [<-c2,hi],.inr (by rw [<-c1];exact h5)⟩
theorem yx {x:Fl}(hx:x.takes t=true):iY (T++t :: R) x ⟨T.length,p,s,l,0,v,N⟩=if 1000<p.length then ⟨T.length,p,s,l,122,v,N⟩ else ⟨T.length+1,p,s,if R=[] then p else l,0,v++⟨2,0,t⟩ :: N T.length,N⟩:=by
 have hq:qn (T++t :: R) ⟨T.length,p,s,l,0,v,N⟩ (fun t=>x.takes t)=true:=by unfold qn;rw [su];exact hx
 unfold iY eM;rw [hq];simp only [Td]
 split
 ·rfl
 ·have:(T.length+1=(T++t :: R).length)↔R=[]:=by
   rw [Or,List.length_cons];constructor
   ·intro h;exact QZ (by omega)
   ·intro h;rw [h];simp
  have e2:(T++t :: R)[T.length]?.getD aB=t:=by simp
  simp only [this,e2]
theorem vU (h:rA N T K p s v) (hw:nw K=true) {k:Nat}{n m:Int}{E o:List Ev}{K2:List It}(hr:Ru t k K n E (.yes K2 m (E++o))) :
  nw K2=true/\(nj o (p,s)).1.map (·.1)=(bJ K2).reverse/\((nj o (p,s)).1.length<=1000->rA N (T++[t]) K2 (nj o (p,s)).1 (nj o (p,s)).2 (v++o++⟨2,0,t⟩ :: N T.length))/\(1000<(nj o (p,s)).1.length->∀R dz,Rb (T++t :: R) bY (ei 1 (tf N)) dz->dz.e=122/\dz.i=T.length):=by
 have go:∀R,∃x lst,lV (T++t :: R) (bY++[.lv 1]) (ei 1 (tf N)) (.fl x :: K2) ⟨T.length,(nj o (p,s)).1,(nj o (p,s)).2,lst,0,v++o,N⟩/\(∀m,x≠Fl.mt m)/\x.takes t=true:=by
  intro R;obtain ⟨lst,h1⟩:=h (t :: R);obtain ⟨_,x,o',e1,hx,hx2,h2⟩:=(Pu (L:=T++t :: R) hr _ su hw).1 _ _ _ rfl;have e2:o'=o:=R5 e1.symm;subst e2;exact ⟨x,lst,h1.trans h2,hx,hx2⟩
 refine ⟨?_,?_,?_,?_⟩
 ·exact ((Pu (L:=T++[t]) hr ⟨T.length,p,s,[],0,v,N⟩ su hw).1 _ _ _ rfl).1
 ·obtain ⟨x,lst,h2,hx,_⟩:=go [];obtain ⟨_,h3⟩:=oO h2 rfl;obtain ⟨q,e1,e2⟩:=h3 [] [(1,1)] rfl rfl;simp at e1;rw [e1];exact e2
 ·intro hle R;obtain ⟨x,lst,h2,hx,hx2⟩:=go R;have h3:=h2.trans (iI hx K2);have h4:=yx (N:=N) (T:=T) (R:=R) (v:=v++o) hx2 (p:=(nj o (p,s)).1) (s:=(nj o (p,s)).2) (l:=lst);rw [Eq (by omega)] at h4;unfold iY at h4;rw [h4] at h3;refine ⟨if R=[] then (nj o (p,s)).1 else lst,?_⟩;rw [QM T,Or];exact h3
 ·intro hgt R dz hb;obtain ⟨x,lst,h2,hx,hx2⟩:=go R;have h3:=h2.trans (iI hx K2);have h4:=yx (N:=N) (T:=T) (R:=R) (v:=v++o) hx2 (p:=(nj o (p,s)).1) (s:=(nj o (p,s)).2) (l:=lst);rw [IO hgt] at h4;unfold iY at h4;rw [h4] at h3;have h5:=kv (xk hb h3) (by show (122:Int)≠0;decide);obtain ⟨c1,c2,c3⟩:=pS (n:=1) (d:=dz);exact ⟨by rw [<-c1,h5],by rw [<-c2,h5]⟩
theorem Im (h:lV L [] d [] d'):d'=d:=by cases h;rfl
def GR (K:List It):Prop:=K=[.lv 1]\/∃X,K=X++[.fl (.wd 6 [⟨#[46]⟩]),.lv 1]
theorem iU:GR (bY++[.lv 1]):=.inr ⟨[.fl (.wd 2 [⟨#[112,114,111,103,114,97,109]⟩]),.fl (.nm),.fl (.wd 6 [⟨#[59]⟩]),.fl (.mt .block)],rfl⟩
theorem rT {t:Tv}{K:List It}{R:Ro}(h:Ru t k K n E R):∀{L:List It}{m:Int}{F:List Ev},R=.yes L m F->GR K->GR L:=by
 induction h with
 |nil=>intro L m F h;cases h
 |ref _=>intro L m F h;cases h
 |tk hs=>
  rename_i i K n E
  intro L m F h hb;cases h
  rcases hb with hb|⟨X,hX⟩
  ·simp at hb;obtain ⟨rfl,rfl⟩:=hb;cases hs
  ·cases X with
   |nil=>simp at hX;exact .inl hX.2
   |cons j X=>simp at hX;exact .inr ⟨X,hX.2⟩
 |go hs hr ih=>
  rename_i k i K n d E o r R
  intro L m F h hb
  rcases hb with hb|⟨X,hX⟩
  ·simp at hb;obtain ⟨rfl,rfl⟩:=hb;cases hs;cases hr;cases h
  ·cases X with
   |nil=>
    simp at hX;obtain ⟨rfl,rfl⟩:=hX;simp only [It.step,Fl.step] at hs
    split at hs <;> cases hs
   |cons j X=>
    simp at hX;obtain ⟨rfl,rfl⟩:=hX;exact ih h (.inr ⟨r++X,by simp⟩)
theorem lx (h:rA N T K p s v) (hb2:GR K) (hb:Rb T bY (ei 1 (tf N)) dz):dz.i=T.length/\(K.length=1->dz.e=0/\dz.v=v)/\(K.length≠1->dz.e=121):=by
 obtain ⟨lst,h1⟩:=h [];have hb':Rb (T++[]) bY (ei 1 (tf N)) dz:=by rw [Rx];exact hb
 have h3:=xk hb' h1;obtain ⟨a,b,c⟩:=In h3 rfl zh;obtain ⟨c1,c2,c3⟩:=pS (n:=1) (d:=dz);rw [c2] at b;refine ⟨b,?_⟩
 rcases hb2 with rfl|⟨X,rfl⟩
 ·refine ⟨fun _=>?_,fun h=>absurd rfl h⟩;cases h3 with
  |step h4=>
   have h5:=Im h4;have he:dz.e=0:=by rw [<-c1,h5];rfl
   refine ⟨he,?_⟩;have h6:=Q0 D.v h5;unfold mN at h6;rw [IO he] at h6;exact List.append_cancel_right h6
 ·refine ⟨fun h=>by simp at h,fun _=>?_⟩;have:=A8 aC h3 rfl X [.lv 1] rfl rfl zh;rw [c1] at this c;exact c.resolve_left this
end
end Go.Proofs.YtjiepkenkcgkhaaGreatDoor
