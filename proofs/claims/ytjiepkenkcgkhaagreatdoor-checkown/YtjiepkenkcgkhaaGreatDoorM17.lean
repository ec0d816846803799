import Derived.Test.YtjiepkenkcgkhaaGreatDoorM01
set_option linter.unusedVariables false
set_option linter.unusedSimpArgs false
namespace Go.Proofs.YtjiepkenkcgkhaaGreatDoor
open Go.RowKit
variable {L:List Tv}{t:Tv}{n:Int}{ts:List ByteArray}{o:Option Tv}
inductive M|block|variables|constants|procedure|params|param|typed|kind|member|body|statement|expr|rel|sum|term|factor|object|index|selection|args|list
deriving DecidableEq
inductive Dk|declaration|bracket|detail
deriving DecidableEq
inductive Fl|wd (k:Int) (ts:List ByteArray)|nm|cs|mt (m:M)
inductive Pk|fn (d:Dk)|row (r:List Fl)|ex (m:M)
inductive It|fl (x:Fl)|lv (n:Int)|once (p:Pk)|again (p:Pk)|all (r:List Fl)
theorem tD {a b:ByteArray}(h:a.toList=b.toList):a=b:=by
 rw [Tc,Tc] at h;have:=SQ.1 h;cases a;cases b;simp_all
theorem F3 (a b:ByteArray):(a.toList == b.toList)=decide (a=b):=by
 by_cases e:a=b
 ·subst e;simp
 ·have:¬a.toList=b.toList:=fun h=>e (tD h)
  simp [e,this]
def kY (l:List ByteArray) (s:ByteArray):Bool:=l.any (fun x=>decide (s=x))
def Tv.is (t:Tv) (l:List UInt8):Bool:=t.t.toList == l
def Fl.takes (t:Tv):Fl->Bool
 |.wd k ts=>t.k == k && kY ts t.t
 |.nm=>t.k == 1
 |.cs=>t.k == 3 || t.k == 4 || t.k == 5
 |.mt _=>false
def cC (t:Tv):Int:=
 if t.k == 6 && t.is [45] then 25 else if t.k == 2 && t.is [110,111,116] then 26 else if t.k == 6 && t.is [40] then 27
 else if t.k == 3 || t.k == 4 || t.k == 5 then 32 else if t.k == 1 then 28 else 0
def Dk.pick (t:Tv):Dk->Option M
 |.declaration=>if t.is [118,97,114] then some .variables else if t.is [99,111,110,115,116] then some .constants else if t.is [112,114,111,99] then some .procedure else none
 |.bracket=>if t.is [40] then some .params else none
 |.detail=>if t.is [91] then some .index else if t.is [46] then some .selection else if t.is [40] then some .args else none
def Pk.pick (t:Tv):Pk->Option It
 |.fn d=>(d.pick t).map (fun m=>.fl (.mt m))
 |.row r=>if (r.head?.elim false (fun x=>x.takes t)) then some (.all r) else none
 |.ex m=>if cC t == 0 then none else some (.fl (.mt m))
def Gz (p:Pk):Option It->List It
 |none=>[]
 |some i=>[i,.again p]
inductive Gw|ref|ex (r:List It)|op (n:Int) (r:List It)
def cd (s:ByteArray):Gw:=
 if s.toList == [115,107,105,112] then .op 13 [.fl (.wd 2 [s])]
 else if s.toList == [105,102] then .op 15 [.fl (.wd 2 [s]),.fl (.mt .expr),.fl (.wd 2 [⟨#[116,104,101,110]⟩]),.fl (.mt .body),.again (.row [.wd 2 [⟨#[101,108,105,102]⟩],.mt .expr,.wd 2 [⟨#[116,104,101,110]⟩],.mt .body]),.once (.row [.wd 2 [⟨#[101,108,115,101]⟩],.mt .body]),.fl (.wd 2 [⟨#[101,110,100]⟩])]
 else if s.toList == [119,104,105,108,101] then .op 16 [.fl (.wd 2 [s]),.fl (.mt .expr),.fl (.wd 2 [⟨#[100,111]⟩]),.fl (.mt .body),.fl (.wd 2 [⟨#[101,110,100]⟩])]
 else if s.toList == [102,111,114] then .op 17 [.fl (.wd 2 [s]),.fl (.nm),.fl (.wd 6 [⟨#[58,61]⟩]),.fl (.mt .expr),.fl (.wd 2 [⟨#[116,111]⟩]),.fl (.mt .expr),.fl (.wd 2 [⟨#[100,111]⟩]),.fl (.mt .body),.fl (.wd 2 [⟨#[101,110,100]⟩])]
 else if s.toList == [114,101,112,101,97,116] then .op 18 [.fl (.wd 2 [s]),.fl (.mt .body),.fl (.wd 2 [⟨#[117,110,116,105,108]⟩]),.fl (.mt .expr)]
 else if s.toList == [114,101,116,117,114,110] then .op 19 [.fl (.wd 2 [s]),.once (.ex .expr)]
 else if s.toList == [98,101,103,105,110] then .op 20 [.fl (.wd 2 [s]),.fl (.mt .body),.fl (.wd 2 [⟨#[101,110,100]⟩])]
 else .ref
def M.row (t:Tv):M->Gw
 |.block=>.op 2 [.again (.fn .declaration),.fl (.wd 2 [⟨#[98,101,103,105,110]⟩]),.fl (.mt .body),.fl (.wd 2 [⟨#[101,110,100]⟩])]
 |.variables=>.op 3 [.fl (.wd 2 [⟨#[118,97,114]⟩]),.fl (.mt .typed),.fl (.wd 6 [⟨#[59]⟩])]
 |.constants=>.op 4 [.fl (.wd 2 [⟨#[99,111,110,115,116]⟩]),.fl (.nm),.fl (.wd 6 [⟨#[61]⟩]),.fl (.mt .expr),.fl (.wd 6 [⟨#[59]⟩])]
 |.params=>.op 6 [.fl (.wd 6 [⟨#[40]⟩]),.fl (.mt .param),.again (.row [.wd 6 [⟨#[59]⟩],.mt .param]),.fl (.wd 6 [⟨#[41]⟩])]
 |.param=>.op 7 [.fl (.mt .typed)]
 |.typed=>.ex [.fl (.nm),.again (.row [.wd 6 [⟨#[44]⟩],.nm]),.fl (.wd 6 [⟨#[58]⟩]),.fl (.mt .kind)]
 |.member=>.op 11 [.fl (.mt .typed)]
 |.body=>.op 12 [.fl (.mt .statement),.again (.row [.wd 6 [⟨#[59]⟩],.mt .statement])]
 |.expr=>.op 21 [.fl (.mt .rel),.again (.row [.wd 2 [⟨#[97,110,100]⟩,⟨#[111,114]⟩],.mt .rel])]
 |.rel=>.op 22 [.fl (.mt .sum),.once (.row [.wd 6 [⟨#[61]⟩,⟨#[35]⟩,⟨#[60]⟩,⟨#[60,61]⟩,⟨#[62]⟩,⟨#[62,61]⟩],.mt .sum])]
 |.sum=>.op 23 [.fl (.mt .term),.again (.row [.wd 6 [⟨#[43]⟩,⟨#[45]⟩],.mt .term])]
 |.term=>.op 24 [.fl (.mt .factor),.again (.row [.wd 6 [⟨#[42]⟩,⟨#[47]⟩,⟨#[37]⟩],.mt .factor])]
 |.object=>.op 28 [.fl (.nm),.again (.fn .detail)]
 |.index=>.op 29 [.fl (.wd 6 [⟨#[91]⟩]),.fl (.mt .list),.fl (.wd 6 [⟨#[93]⟩])]
 |.selection=>.op 30 [.fl (.wd 6 [⟨#[46]⟩]),.fl (.nm)]
 |.args=>.op 31 [.fl (.wd 6 [⟨#[40]⟩]),.once (.ex .list),.fl (.wd 6 [⟨#[41]⟩])]
 |.list=>.ex [.fl (.mt .expr),.again (.row [.wd 6 [⟨#[44]⟩],.mt .expr])]
 |.procedure=>.op 5 [.fl (.wd 2 [⟨#[112,114,111,99]⟩]),.fl (.nm),.once (.fn .bracket),.once (.row [.wd 6 [⟨#[58]⟩],.mt .kind]),.fl (.wd 6 [⟨#[59]⟩]),.fl (.mt .block),.fl (.wd 6 [⟨#[59]⟩])]
 |.kind=>if t.k == 1 then .op 8 [.fl .nm] else if t.is [97,114,114,97,121] then .op 9 [.fl (.wd 2 [⟨#[97,114,114,97,121]⟩]),.fl (.wd 6 [⟨#[91]⟩]),.fl (.mt .expr),.fl (.wd 6 [⟨#[46,46]⟩]),.fl (.mt .expr),.fl (.wd 6 [⟨#[93]⟩]),.fl (.wd 2 [⟨#[111,102]⟩]),.fl (.mt .kind)] else if t.is [114,101,99,111,114,100] then .op 10 [.fl (.wd 2 [⟨#[114,101,99,111,114,100]⟩]),.fl (.mt .member),.again (.row [.wd 6 [⟨#[59]⟩],.mt .member]),.fl (.wd 2 [⟨#[101,110,100]⟩])] else .ref
 |.statement=>if t.k == 1 then .op 14 [.fl (.mt .object),.once (.row [.wd 6 [⟨#[58,61]⟩],.mt .expr])] else cd t.t
 |.factor=>if cC t == 25 then .op 25 [.fl (.wd 6 [⟨#[45]⟩]),.fl (.mt .factor)] else if cC t == 26 then .op 26 [.fl (.wd 2 [⟨#[110,111,116]⟩]),.fl (.mt .factor)] else if cC t == 27 then .op 27 [.fl (.wd 6 [⟨#[40]⟩]),.fl (.mt .expr),.fl (.wd 6 [⟨#[41]⟩])] else if cC t == 32 then .op 32 [.fl (.cs)] else if cC t == 28 then .ex [.fl (.mt .object)] else .ref
def bY:List It:=[.fl (.wd 2 [⟨#[112,114,111,103,114,97,109]⟩]),.fl (.nm),.fl (.wd 6 [⟨#[59]⟩]),.fl (.mt .block),.fl (.wd 6 [⟨#[46]⟩])]
inductive Sr|tk|ref|go (d:Int) (o:List Ev) (r:List It)
def Gw.sr:Gw->Sr
 |.ref=>.ref
 |.ex r=>.go 0 [] r
 |.op nd r=>.go 1 [⟨1,nd,aB⟩] (r++[.lv nd])
def Fl.step (t:Tv):Fl->Sr
 |.mt m=>(M.row t m).sr
 |x=>if x.takes t then .tk else .ref
def It.step (t:Tv):It->Sr
 |.fl x=>x.step t
 |.lv n=>.go (-1) [⟨3,n,aB⟩] []
 |.once p=>.go 0 [] (Pk.pick t p).toList
 |.again p=>.go 0 [] (Gz p (Pk.pick t p))
 |.all r=>.go 0 [] (r.map It.fl)
def Kz (r:List Fl):Prop:=(∃k ts rest,r=Fl.wd k ts :: rest)/\r.length<=8
def Pk.wf:Pk->Prop
 |.row r=>Kz r
 |_=>True
def It.wf:It->Prop
 |.once p=>p.wf
 |.again p=>p.wf
 |.all r=>Kz r
 |_=>True
def jQ (K:List It):Prop:=∀i∈K,i.wf
def bJ:List It->List Int
 |[]=>[]
 |.lv n :: K=>n :: bJ K
 |_ :: K=>bJ K
theorem bM (a b:List It):bJ (a++b)=bJ a++bJ b:=by
 induction a with
 |nil=>rfl
 |cons i r ih=>cases i <;> simp [bJ,ih]
theorem jS (r:List Fl):bJ (r.map It.fl)=[]:=by
 induction r with
 |nil=>rfl
 |cons x r ih=>simp [bJ,ih]
theorem Lm (r:List Fl):jQ (r.map It.fl):=by
 intro i hi;obtain ⟨x,_,rfl⟩:=Tm.1 hi
 trivial
theorem fD {a b:List It}(ha:jQ a) (hb:jQ b):jQ (a++b):=fun i hi=>(Q6.1 hi).elim (ha i) (hb i)
theorem gT:jQ []:=fun _ h=>by cases h
theorem jZ {i:It}{K:List It}(hi:i.wf) (hK:jQ K):jQ (i :: K):=fun j hj=>(Rg.1 hj).elim (fun e=>e ▸ hi) (hK j)
def Gw.ok:Gw->Prop
 |.ref=>True
 |.ex r=>jQ r/\r.length<=10/\bJ r=[]
 |.op nd r=>jQ r/\r.length<=10/\bJ r=[]/\2<=nd/\nd<=32
theorem oc (s:ByteArray):(cd s).ok:=by
 unfold cd
 repeat' split
 all_goals simp [Gw.ok,jQ,It.wf,Pk.wf,Kz,bJ]
theorem gV (t:Tv) (m:M):(M.row t m).ok:=by
 cases m <;> simp only [M.row]
 case statement=>
  split
  ·simp [Gw.ok,jQ,It.wf,Pk.wf,Kz,bJ]
  ·exact oc _
 all_goals (repeat' split)
 all_goals simp [Gw.ok,jQ,It.wf,Pk.wf,Kz,bJ]
theorem ng {p:Pk}(hp:p.wf) {i:It}(h:Pk.pick t p=some i):i.wf/\bJ [i]=[]:=by
 cases p with
 |fn d=>
  simp only [Pk.pick,Q9] at h;obtain ⟨m,_,rfl⟩:=h;exact ⟨trivial,rfl⟩
 |row r=>
  simp only [Pk.pick] at h
  split at h
  ·cases h;exact ⟨hp,rfl⟩
  ·cases h
 |ex m=>
  simp only [Pk.pick] at h
  split at h
  ·cases h
  ·cases h;exact ⟨trivial,rfl⟩
theorem fF {t:Tv}{i:It}{d:Int}{o:List Ev}{r K:List It}(h:It.step t i=.go d o r) (hi:i.wf) :
  jQ r/\r.length<=11/\o.length<=1/\((bJ (r++K)).length:Int)=(bJ (i :: K)).length+d:=by
 cases i with
 |fl x=>
  have hm:∃m,x=.mt m:=by
   cases x with
   |mt m=>exact ⟨m,rfl⟩
   |_=>simp only [It.step,Fl.step] at h;split at h <;> cases h
  obtain ⟨m,rfl⟩:=hm;have hr:=gV t m;simp only [It.step,Fl.step] at h;cases hrow:M.row t m with
  |ref=>rw [hrow] at h;cases h
  |ex r'=>
   rw [hrow] at h hr;cases h;refine ⟨hr.1,by have:=hr.2.1;omega,by simp,?_⟩;rw [bM,hr.2.2];simp [bJ]
  |op nd r'=>
   rw [hrow] at h hr;cases h;refine ⟨fD hr.1 (jZ trivial gT),by have:=hr.2.1;simp;omega,by simp,?_⟩;rw [bM,bM,hr.2.2.1];simp [bJ]
 |lv n=>
  cases h;refine ⟨gT,by simp,by simp,?_⟩;simp [bJ];omega
 |once p=>
  simp only [It.step] at h;cases hp:Pk.pick t p with
  |none=>rw [hp] at h;cases h;exact ⟨gT,by simp,by simp,by simp [bJ]⟩
  |some j=>
   rw [hp] at h;cases h;have:=ng hi hp;refine ⟨jZ this.1 gT,by simp,by simp,?_⟩;show ((bJ ([j]++K)).length:Int)=_;rw [bM,this.2];simp [bJ]
 |again p=>
  simp only [It.step] at h;cases hp:Pk.pick t p with
  |none=>rw [hp] at h;cases h;exact ⟨gT,by simp [Gz],by simp,by simp [bJ,Gz]⟩
  |some j=>
   rw [hp] at h;cases h;have:=ng hi hp;refine ⟨jZ this.1 (jZ hi gT),by simp [Gz],by simp,?_⟩;show ((bJ ([j]++([.again p]++K))).length:Int)=_;rw [bM,this.2];simp [bJ]
 |all r'=>
  cases h;refine ⟨Lm r',by have:=hi.2;simp;omega,by simp,?_⟩;rw [bM,jS];simp [bJ]
inductive Ro|no|yes (K:List It) (n:Int) (E:List Ev)
inductive Ru (t:Tv):Nat->List It->Int->List Ev->Ro->Prop
 |nil {n:Int} {E:List Ev}:Ru t 0 [] n E .no
 |ref {i:It} {K:List It} {n:Int} {E:List Ev}:It.step t i=.ref->Ru t 0 (i :: K) n E .no
 |tk {i:It} {K:List It} {n:Int} {E:List Ev}:It.step t i=.tk->Ru t 0 (i :: K) n E (.yes K n E)
 |go {k:Nat} {i:It} {K:List It} {n d:Int} {E o:List Ev} {r:List It} {R:Ro}:It.step t i=.go d o r->Ru t k (r++K) (n+d) (E++o) R->Ru t (k+1) (i :: K) n E R
def fA (t:Tv) (c:Nat) (i:It):Prop:=∀K n E,∃k R,k<=c/\Ru t k (i :: K) n E R
theorem jb (t:Tv) (x:Fl) (hx:∀m,x≠.mt m) (c:Nat):fA t c (.fl x):=by
 intro K n E
 have h:It.step t (.fl x)=if x.takes t then .tk else .ref:=by
  cases x with
  |mt m=>exact absurd rfl (hx m)
  |_=>rfl
 by_cases hb:x.takes t=true
 ·rw [IO hb] at h;exact ⟨0,_,QK _,.tk h⟩
 ·rw [Eq hb] at h;exact ⟨0,_,QK _,.ref h⟩
theorem bW {t:Tv}{i j:It}{d:Int}{o:List Ev}{r:List It}{c:Nat}(h:It.step t i=.go d o (j :: r)) (hj:fA t c j):fA t (c+1) i:=by
 intro K n E;obtain ⟨k,R,hk,hR⟩:=hj (r++K) (n+d) (E++o);exact ⟨k+1,R,by omega,.go h hR⟩
theorem fA.up {c c':Nat}{i:It}(h:fA t c i) (hc:c<=c'):fA t c' i:=by
 intro K n E;obtain ⟨k,R,hk,hR⟩:=h K n E;exact ⟨k,R,by omega,hR⟩
theorem Dj {i:It}(h:It.step t i=.ref) (c:Nat):fA t c i:=fun K n E=>⟨0,_,QK _,.ref h⟩
theorem aC {k:Int}:∀m,Fl.wd k ts≠.mt m:=fun m h=>by cases h
theorem cP:∀m,Fl.nm≠.mt m:=fun m h=>by cases h
theorem Em:∀m,Fl.cs≠.mt m:=fun m h=>by cases h
theorem oC {t:Tv}{i:It}{d:Int}{o:List Ev}{x:Fl}{r:List It}(h:It.step t i=.go d o (.fl x :: r)) (hx:∀m,x≠.mt m):fA t 1 i:=bW h (jb t x hx 0)
theorem iq (t:Tv):fA t 1 (.fl (.mt .object)):=oC rfl cP
theorem jR (t:Tv):fA t 1 (.fl (.mt .typed)):=oC rfl cP
theorem oE {t:Tv}{m:M}{c:Nat}(R:Gw) (hR:M.row t m=R) (h:R=.ref\/(∃x r,(∀m,x≠Fl.mt m)/\(R=.ex (.fl x :: r)\/∃nd,R=.op nd (.fl x :: r)))):fA t 1 (.fl (.mt m)):=by
 have hs:It.step t (.fl (.mt m))=R.sr:=by simp only [It.step,Fl.step,hR]
 rcases h with rfl|⟨x,r,hx,rfl|⟨nd,rfl⟩⟩
 ·exact Dj hs 1
 ·exact oC hs hx
 ·exact oC (d:=1) (o:=[⟨1,nd,aB⟩]) (x:=x) (r:=r++[It.lv nd]) hs hx
theorem mg (t:Tv):fA t 2 (.fl (.mt .factor)):=by
 by_cases h:cC t=28
 ·have hs:It.step t (.fl (.mt .factor))=.go 0 [] [.fl (.mt .object)]:=by simp [It.step,Fl.step,M.row,h,Gw.sr]
  exact bW hs (iq t)
 ·refine (oE (c:=0) _ rfl ?_).up (by omega);have h':(cC t == 28)=false:=by simpa using h
  simp only [M.row,h',Q8,R8]
  repeat' split
  all_goals first
   |exact .inl rfl
   |exact .inr ⟨_,_,aC,.inr ⟨_,rfl⟩⟩
   |exact .inr ⟨_,_,Em,.inr ⟨_,rfl⟩⟩
   | (rename_i hh;simp at hh)
theorem AJ (t:Tv):fA t 1 (.fl (.mt .kind)):=by
 refine oE (c:=0) _ rfl ?_;simp only [M.row]
 repeat' split
 all_goals first
  |exact .inl rfl
  |exact .inr ⟨_,_,aC,.inr ⟨_,rfl⟩⟩
  |exact .inr ⟨_,_,cP,.inr ⟨_,rfl⟩⟩
theorem ip (t:Tv):fA t 2 (.fl (.mt .statement)):=by
 by_cases h:(t.k == 1)=true
 ·have hs:It.step t (.fl (.mt .statement))=.go 1 [⟨1,14,aB⟩] ([.fl (.mt .object),.once (.row [.wd 6 [⟨#[58,61]⟩],.mt .expr])]++[.lv 14]):=by simp [It.step,Fl.step,M.row,h,Gw.sr]
  exact bW (r:=[.once (.row [.wd 6 [⟨#[58,61]⟩],.mt .expr]),.lv 14]) hs (iq t)
 ·refine (oE (c:=0) _ rfl ?_).up (by omega);have h':(t.k == 1)=false:=by simpa using h
  simp only [M.row,h',Q8,R8,cd]
  repeat' split
  all_goals first
   |exact .inl rfl
   |exact .inr ⟨_,_,aC,.inr ⟨_,rfl⟩⟩
   | (rename_i hh;simp at hh)
theorem qC (t:Tv):fA t 3 (.fl (.mt .term)):=bW rfl (mg t)
theorem um (t:Tv):fA t 4 (.fl (.mt .sum)):=bW rfl (qC t)
theorem un (t:Tv):fA t 5 (.fl (.mt .rel)):=bW rfl (um t)
theorem qE (t:Tv):fA t 6 (.fl (.mt .expr)):=bW rfl (un t)
theorem dV (t:Tv) (m:M) (h:m=.variables\/m=.constants\/m=.procedure\/m=.params\/m=.index\/m=.selection\/m=.args):fA t 1 (.fl (.mt m)):=by
 rcases h with rfl|rfl|rfl|rfl|rfl|rfl|rfl <;> exact oC rfl aC
theorem nQ {d:Dk}{m:M}(h:d.pick t=some m):m=.variables\/m=.constants\/m=.procedure\/m=.params\/m=.index\/m=.selection\/m=.args:=by
 cases d <;> simp only [Dk.pick] at h <;> repeat' (split at h)
 all_goals first|(cases h;done)|(cases h;simp)
theorem wY (t:Tv):fA t 4 (.fl (.mt .block)):=by
 intro K n E;have hs:It.step t (.fl (.mt .block))=.go 1 [⟨1,2,aB⟩] (.again (.fn .declaration) :: .fl (.wd 2 [⟨#[98,101,103,105,110]⟩]) :: [.fl (.mt .body),.fl (.wd 2 [⟨#[101,110,100]⟩]),.lv 2]):=rfl;cases hp:Dk.pick t .declaration with
 |none=>
  have h2:It.step t (.again (.fn .declaration))=.go 0 [] []:=by simp [It.step,Pk.pick,hp,Gz]
  obtain ⟨k,R,hk,hR⟩:=jb t (.wd 2 [⟨#[98,101,103,105,110]⟩]) aC 0 ([.fl (.mt .body),.fl (.wd 2 [⟨#[101,110,100]⟩]),.lv 2]++K) (n+1+0) (E++[⟨1,2,aB⟩]++[]);exact ⟨k+1+1,R,by omega,.go hs (.go h2 hR)⟩
 |some m=>
  have h2:It.step t (.again (.fn .declaration))=.go 0 [] (.fl (.mt m) :: [.again (.fn .declaration)]):=by simp [It.step,Pk.pick,hp,Gz]
  exact ((bW hs (bW h2 (dV t m (nQ hp)))).up (by omega)) K n E
theorem rM (t:Tv) (m:M):fA t 8 (.fl (.mt m)):=by
 cases m with
 |block=>exact (wY t).up (by omega)
 |variables=>exact (dV t _ (by simp)).up (by omega)
 |constants=>exact (dV t _ (by simp)).up (by omega)
 |procedure=>exact (dV t _ (by simp)).up (by omega)
 |params=>exact (dV t _ (by simp)).up (by omega)
 |param=>exact (bW rfl (jR t)).up (by omega)
 |typed=>exact (jR t).up (by omega)
 |kind=>exact (AJ t).up (by omega)
 |member=>exact (bW rfl (jR t)).up (by omega)
 |body=>exact (bW rfl (ip t)).up (by omega)
 |statement=>exact (ip t).up (by omega)
 |expr=>exact (qE t).up (by omega)
 |rel=>exact (un t).up (by omega)
 |sum=>exact (um t).up (by omega)
 |term=>exact (qC t).up (by omega)
 |factor=>exact (mg t).up (by omega)
 |object=>exact (iq t).up (by omega)
 |index=>exact (dV t _ (by simp)).up (by omega)
 |selection=>exact (dV t _ (by simp)).up (by omega)
 |args=>exact (dV t _ (by simp)).up (by omega)
 |list=>exact (bW rfl (qE t)).up (by omega)
theorem qD (t:Tv) (x:Fl):fA t 8 (.fl x):=by
 cases x with
 |mt m=>exact rM t m
 |_=>exact jb t _ (fun m h=>by cases h) 8
theorem ja {p:Pk}(hp:p.wf) {i:It}(h:Pk.pick t p=some i):fA t 9 i:=by
 cases p with
 |fn d=>
  simp only [Pk.pick,Q9] at h;obtain ⟨m,_,rfl⟩:=h;exact (rM t m).up (by omega)
 |row r=>
  simp only [Pk.pick] at h
  split at h
  ·cases h;obtain ⟨⟨k,ts,rest,rfl⟩,_⟩:=hp;exact (bW (r:=rest.map It.fl) rfl (jb t (.wd k ts) aC 0)).up (by omega)
  ·cases h
 |ex m=>
  simp only [Pk.pick] at h
  split at h
  ·cases h
  ·cases h;exact (rM t m).up (by omega)
theorem KB (t:Tv):∀(K:List It),jQ K->∀n E,∃k R,k<=K.length+20/\Ru t k K n E R
 |[],_,n,E=>⟨0,_,QK _,.nil⟩
 |i :: K,hw,n,E=>by
  have hi:i.wf:=hw i (QN ..);have hK:jQ K:=fun j hj=>hw j (QO _ hj)
  have pop:∀d o,It.step t i=.go d o []->∃k R,k<=(i :: K).length+20/\Ru t k (i :: K) n E R:=by
   intro d o h;obtain ⟨k,R,hk,hR⟩:=KB t K hK (n+d) (E++o);exact ⟨k+1,R,by simp;omega,.go h hR⟩
  have soon:∀c,c<=20->fA t c i->∃k R,k<=(i :: K).length+20/\Ru t k (i :: K) n E R:=by
   intro c hc h;obtain ⟨k,R,hk,hR⟩:=h K n E;exact ⟨k,R,by omega,hR⟩
  cases i with
  |fl x=>exact soon 8 (by omega) (qD t x)
  |lv nd=>exact pop _ _ rfl
  |once p=>
   cases hp:Pk.pick t p with
   |none=>exact pop 0 [] (by simp [It.step,hp])
   |some j=>exact soon 10 (by omega) (bW (r:=[]) (by simp [It.step,hp];exact ⟨rfl,rfl⟩) (ja hi hp))
  |again p=>
   cases hp:Pk.pick t p with
   |none=>exact pop 0 [] (by simp [It.step,hp,Gz])
   |some j=>exact soon 10 (by omega) (bW (r:=[.again p]) (by simp [It.step,hp,Gz];exact ⟨rfl,rfl⟩) (ja hi hp))
  |all r=>
   obtain ⟨⟨k,ts,rest,rfl⟩,_⟩:=hi;exact soon 1 (by omega) (bW (r:=rest.map It.fl) rfl (jb t (.wd k ts) aC 0))
structure D where
 i:Nat
 p:List (Int × Nat)
 s:Nat
 l:List (Int × Nat)
 e:Int
 v:List Ev
 N:Nat->List Ev
def cL (L:List Tv) (d:D):Option Tv:=if d.e=0 then L[d.i]? else none
def qn (L:List Tv) (d:D) (f:Tv->Bool):Bool:=(cL L d).elim false f
def ei (n:Int) (d:D):D:=if d.e=0 then { d with p:=d.p++[(n,d.s+1)],s:=d.s+1,v:=d.v++[⟨1,n,aB⟩] } else d
def mN (n:Int) (d:D):D:=if d.e=0 then { d with p:=d.p.dropLast,v:=d.v++[⟨3,n,aB⟩] } else d
def eM (L:List Tv) (r:Bool) (d:D):D:=
 if r then (if 1000<d.p.length then { d with e:=122 } else { d with i:=d.i+1,l:=if d.i+1=L.length then d.p else d.l,v:=d.v++⟨2,0,L[d.i]?.getD aB⟩ :: d.N d.i })
 else if d.e=0 then (if d.i<L.length then { d with e:=120 } else { d with e:=121 }) else d
def wk (k:Int) (s:ByteArray) (t:Tv):Bool:=t.k == k && decide (t.t=s)
def Dk.kd:Dk->Int
 |.declaration=>2
 |_=>6
def cH (o:Option Tv):M->Gw
 |.kind=>if o.elim false (wk 2 ⟨#[97,114,114,97,121]⟩) then .op 9 [.fl (.wd 2 [⟨#[97,114,114,97,121]⟩]),.fl (.wd 6 [⟨#[91]⟩]),.fl (.mt .expr),.fl (.wd 6 [⟨#[46,46]⟩]),.fl (.mt .expr),.fl (.wd 6 [⟨#[93]⟩]),.fl (.wd 2 [⟨#[111,102]⟩]),.fl (.mt .kind)]
  else if o.elim false (wk 2 ⟨#[114,101,99,111,114,100]⟩) then .op 10 [.fl (.wd 2 [⟨#[114,101,99,111,114,100]⟩]),.fl (.mt .member),.again (.row [.wd 6 [⟨#[59]⟩],.mt .member]),.fl (.wd 2 [⟨#[101,110,100]⟩])] else .op 8 [.fl .nm]
 |.statement=>match o with
  |none=>.ref
  |some t=>if t.k == 1 then .op 14 [.fl (.mt .object),.once (.row [.wd 6 [⟨#[58,61]⟩],.mt .expr])] else if t.k == 2 then cd t.t else .ref
 |.factor=>match o with
  |none=>.ref
  |some t=>M.row t .factor
 |m=>M.row aB m
def bu (o:Option Tv) (p:Pk):Option It:=
 match o with
 |none=>none
 |some t=>match p with
  |.fn d=>if t.k == d.kd then (d.pick t).map (fun m=>.fl (.mt m)) else none
  |p=>Pk.pick t p
def dst (L:List Tv):It->D->List It × D
 |.fl (.mt m),d=>match cH (cL L d) m with
  |.ref=>([],eM L false d)
  |.ex r=>(r,d)
  |.op nd r=>(r++[.lv nd],ei nd d)
 |.fl x,d=>([],eM L (qn L d (fun t=>x.takes t)) d)
 |.lv n,d=>([],mN n d)
 |.once p,d=>((bu (cL L d) p).toList,d)
 |.again p,d=>(Gz p (bu (cL L d) p),d)
 |.all r,d=>(r.map It.fl,d)
inductive lV (L:List Tv):List It->D->List It->D->Prop
 |refl {K:List It} {d:D}:lV L K d K d
 |step {i:It} {K K':List It} {d d':D}:lV L ((dst L i d).1++K) (dst L i d).2 K' d'->lV L (i :: K) d K' d'
theorem lV.trans {K K1 K2:List It}{d d1 d2:D}(h:lV L K d K1 d1) (h':lV L K1 d1 K2 d2):lV L K d K2 d2:=by
 induction h with
 |refl=>exact h'
 |step _ ih=>exact .step (ih h')
theorem lV.det {K K1:List It}{d d1 d2:D}(h:lV L K d K1 d1) (h':lV L K d [] d2):lV L K1 d1 [] d2:=by
 induction h with
 |refl=>exact h'
 |step _ ih=>
  cases h' with
  |step h2=>exact ih h2
def Ib (L:List Tv) (i:It) (d d':D):Prop:=∀K,lV L (i :: K) d K d'
def Rb (L:List Tv) (r:List It) (d d':D):Prop:=∀K,lV L (r++K) d K d'
theorem aE {d:D}:Rb L [] d d:=fun K=>.refl
theorem aa {i:It}{r:List It}{d d1 d2:D}(h:Ib L i d d1) (h':Rb L r d1 d2):Rb L (i :: r) d d2:=fun K=>(h (r++K)).trans (h' K)
theorem iI {L:List Tv}{d:D}{x:Fl}(hx:∀m,x≠.mt m):Ib L (.fl x) d (eM L (qn L d (fun t=>x.takes t)) d):=fun K=>by
 refine .step ?_;cases x with
 |mt m=>exact absurd rfl (hx m)
 |_=>exact .refl
theorem KN {L:List Tv}{d:D}{n:Int}:Ib L (.lv n) d (mN n d):=fun K=>.step .refl
theorem aT {L:List Tv}{d d':D}{m:M}{nd:Int}{r:List It}(h:cH (cL L d) m=.op nd r) (h':Rb L (r++[.lv nd]) (ei nd d) d'):Ib L (.fl (.mt m)) d d':=fun K=>by
 refine .step ?_;have e:dst L (.fl (.mt m)) d=(r++[.lv nd],ei nd d):=by simp only [dst,h]
 rw [e];exact h' K
theorem qW {L:List Tv}{d d':D}{m:M}{r:List It}(h:cH (cL L d) m=.ex r) (h':Rb L r d d'):Ib L (.fl (.mt m)) d d':=fun K=>by
 refine .step ?_;have e:dst L (.fl (.mt m)) d=(r,d):=by simp only [dst,h]
 rw [e];exact h' K
theorem sH {L:List Tv}{d:D}{m:M}(h:cH (cL L d) m=.ref):Ib L (.fl (.mt m)) d (eM L false d):=fun K=>by
 refine .step ?_;have e:dst L (.fl (.mt m)) d=([],eM L false d):=by simp only [dst,h]
 rw [e];exact .refl
theorem aN {d d':D}{r:List Fl}(h:Rb L (r.map It.fl) d d'):Ib L (.all r) d d':=fun K=>.step (h K)
theorem aZ {d:D}{p:Pk}(h:bu (cL L d) p=none):Ib L (.once p) d d:=fun K=>by
 refine .step ?_;simp only [dst,h];exact .refl
theorem bi {d d':D}{p:Pk}{i:It}(h:bu (cL L d) p=some i) (h':Ib L i d d'):Ib L (.once p) d d':=fun K=>by
 refine .step ?_;simp only [dst,h];exact h' K
theorem qX {d:D}{p:Pk}(h:bu (cL L d) p=none):Ib L (.again p) d d:=fun K=>by
 refine .step ?_;simp only [dst,h];exact .refl
theorem bj {d d1 d2:D}{p:Pk}{i:It}(h:bu (cL L d) p=some i) (h':Ib L i d d1) (h2:Ib L (.again p) d1 d2):Ib L (.again p) d d2:=fun K=>by
 refine .step ?_;simp only [dst,h];exact (h' (.again p :: K)).trans (h2 K)
def ms (L:List Tv) (d:D):Nat:=if d.e=0 then L.length-d.i+1 else 0
theorem uY {d:D}:ms L (ei n d)=ms L d:=by unfold ei;split <;> rfl
theorem On {d:D}:ms L (mN n d)=ms L d:=by unfold mN;split <;> rfl
theorem yP {d:D}{f:Tv->Bool}(h:qn L d f=true):d.e=0/\d.i<L.length:=by
 unfold qn cL at h
 split at h
 ·rename_i he
  refine ⟨he,?_⟩;cases hl:L[d.i]? with
  |none=>rw [hl] at h;cases h
  |some t=>exact (QT.1 hl).1
 ·cases h
theorem Et {L:List Tv}{d:D}{f:Tv->Bool}{r:Bool}(h:r=qn L d f):ms L (eM L r d)<=ms L d/\(0<ms L d->ms L (eM L r d)<ms L d):=by
 cases hr:r with
 |true=>
  rw [hr] at h;obtain ⟨he,hi⟩:=yP h.symm;unfold eM ms;simp only [Td]
  split
  ·simp [he]
  ·simp only [he,Td];omega
 |false=>
  unfold eM ms;simp only [Q8,R8]
  by_cases he:d.e=0
  ·simp only [he,Td]
   split <;> simp
  ·simp [he]
def Pn (d:D):Prop:=d.e=0->d.p≠[]
theorem uS {d:D}(he:¬d.e=0):ei n d=d:=by unfold ei;rw [Eq he]
theorem wm {d:D}(he:¬d.e=0):mN n d=d:=by unfold mN;rw [Eq he]
def iY (L:List Tv) (x:Fl) (d:D):D:=eM L (qn L d (fun t=>x.takes t)) d
theorem qv (k:Int) (s:ByteArray) (t:Tv):wk k s t=(t.k == k && t.t.toList == s.toList):=by unfold wk;rw [F3]
theorem JS (o:Option Tv) (m:M):(cH o m).ok:=by
 cases m with
 |kind=>
  simp only [cH]
  repeat' split
  all_goals simp [Gw.ok,jQ,It.wf,Pk.wf,Kz,bJ]
 |statement=>
  cases o with
  |none=>trivial
  |some t=>
   simp only [cH]
   split
   ·simp [Gw.ok,jQ,It.wf,Pk.wf,Kz,bJ]
   ·split
    ·exact oc _
    ·trivial
 |factor=>
  cases o with
  |none=>trivial
  |some t=>exact gV t .factor
 |_=>simp only [cH];exact gV aB _
theorem Fv {o:Option Tv}{m:M}:(∀r,cH o m=.ex r->bJ r=[])/\(∀nd r,cH o m=.op nd r->bJ r=[]):=by
 have h:=JS o m;constructor
 ·intro r e;rw [e] at h;exact h.2.2
 ·intro nd r e;rw [e] at h;exact h.2.2.1
theorem lQ {p:Pk}{i:It}(h:bu o p=some i):bJ [i]=[]:=by
 cases o with
 |none=>cases h
 |some t=>
  cases p with
  |fn d=>
   simp only [bu] at h
   split at h
   ·simp only [Q9] at h;obtain ⟨m,_,rfl⟩:=h;rfl
   ·cases h
  |row r=>
   simp only [bu,Pk.pick] at h
   split at h
   ·cases h;rfl
   ·cases h
  |ex m=>
   simp only [bu,Pk.pick] at h
   split at h
   ·cases h
   ·cases h;rfl
theorem ou {b:Bool}{d:D}(h:(eM L b d).e=0):b=true/\d.e=0/\(eM L b d).p=d.p/\d.p.length<=1000:=by
 unfold eM at h ⊢;cases b with
 |true=>
  simp only [Td] at h ⊢
  split at h
  ·cases h
  ·rename_i hd
   rw [Eq hd];exact ⟨trivial,h,rfl,by omega⟩
 |false=>
  simp only [Q8,R8] at h
  split at h
  ·split at h <;> cases h
  ·rename_i he;exact absurd h he
theorem Ec {n:Int}{d:D}:(ei n d).e=d.e:=by unfold ei;split <;> rfl
theorem wl {d:D}:(mN n d).e=d.e:=by unfold mN;split <;> rfl
theorem Fs {i:It}{d:D}(h:(dst L i d).2.e=0):d.e=0/\∀(K:List It) (base q:List (Int × Nat)),d.p=base++q->q.map (·.1)=(bJ (i :: K)).reverse->∃q',(dst L i d).2.p=base++q'/\q'.map (·.1)=(bJ ((dst L i d).1++K)).reverse:=by
 cases i with
 |fl x=>
  by_cases hx:∃m,x=.mt m
  ·obtain ⟨m,rfl⟩:=hx;obtain ⟨l1,l2⟩:=Fv (o:=cL L d) (m:=m);simp only [dst] at h ⊢;cases hr:cH (cL L d) m with
   |ref=>
    rw [hr] at h;exact absurd (ou h).1 (by decide)
   |ex r=>
    rw [hr] at h;refine ⟨h,fun K base q e1 e2=>⟨q,e1,?_⟩⟩;rw [bM,l1 r hr];exact e2
   |op nd r=>
    rw [hr] at h;simp only at h ⊢;have he:d.e=0:=by rw [<-Ec (n:=nd)];exact h
    refine ⟨he,fun K base q e1 e2=>⟨q++[(nd,d.s+1)],?_,?_⟩⟩
    ·unfold ei;rw [IO he];simp [e1]
    ·rw [bM,bM,l2 nd r hr];simp only [bJ,Su,e2];simp
  ·have e:dst L (.fl x) d=([],eM L (qn L d (fun t=>x.takes t)) d):=by
    cases x with
    |mt m=>exact absurd ⟨m,rfl⟩ hx
    |_=>rfl
   rw [e] at h ⊢;obtain ⟨_,he,hp,_⟩:=ou h;exact ⟨he,fun K base q e1 e2=>⟨q,by rw [hp];exact e1,e2⟩⟩
 |lv n=>
  simp only [dst] at h ⊢;rw [wl] at h;refine ⟨h,fun K base q e1 e2=>⟨q.dropLast,?_,?_⟩⟩
  ·unfold mN;rw [IO h]
   have hq:q≠[]:=by
    intro hq;rw [hq] at e2;simp [bJ] at e2
   show d.p.dropLast=_
   rw [e1,List.dropLast_append_of_ne_nil hq]
  ·rw [List.map_dropLast,e2];simp [bJ]
 |once p=>
  simp only [dst] at h ⊢;refine ⟨h,fun K base q e1 e2=>⟨q,e1,?_⟩⟩;cases hp:bu (cL L d) p with
  |none=>exact e2
  |some i=>
   show _=(bJ ([i]++K)).reverse
   rw [bM,lQ hp];exact e2
 |again p=>
  simp only [dst] at h ⊢;refine ⟨h,fun K base q e1 e2=>⟨q,e1,?_⟩⟩;cases hp:bu (cL L d) p with
  |none=>exact e2
  |some i=>
   show _=(bJ ([i]++(.again p :: K))).reverse
   rw [bM,lQ hp];exact e2
 |all r=>
  simp only [dst] at h ⊢;refine ⟨h,fun K base q e1 e2=>⟨q,e1,?_⟩⟩;rw [bM,jS];exact e2
theorem oO {K K':List It}{d d':D}(h:lV L K d K' d') (hl:d'.e=0):d.e=0/\∀(base q:List (Int × Nat)),d.p=base++q->q.map (·.1)=(bJ K).reverse->∃q',d'.p=base++q'/\q'.map (·.1)=(bJ K').reverse:=by
 induction h with
 |refl=>exact ⟨hl,fun base q e1 e2=>⟨q,e1,e2⟩⟩
 |step _ ih=>
  obtain ⟨h1,h2⟩:=ih hl;obtain ⟨h3,h4⟩:=Fs h1;refine ⟨h3,fun base q e1 e2=>?_⟩;obtain ⟨q1,e3,e4⟩:=h4 _ base q e1 e2;exact h2 base q1 e3 e4
theorem Jp {i:It}{d d':D}(hi:bJ [i]=[]) (h:Ib L i d d') (hl:d'.e=0):d.e=0/\d'.p=d.p:=by
 obtain ⟨h1,h2⟩:=oO (h []) hl;obtain ⟨q,e1,e2⟩:=h2 d.p [] (by simp) (by rw [hi];rfl);have:q=[]:=by simpa [bJ] using e2
 exact ⟨h1,by rw [e1,this];simp⟩
theorem Oe {i:It}{d d':D}(h:Pn d) (hi:bJ [i]=[]) (hb:Ib L i d d'):Pn d':=by
 intro he;obtain ⟨h1,h2⟩:=Jp hi hb he;rw [h2];exact h h1
theorem MW {i:It}{d:D}:ms L (dst L i d).2<=ms L d:=by
 have ref:ms L (eM L false d)<=ms L d:=by
  unfold eM ms;simp only [Q8,R8]
  by_cases he:d.e=0
  ·simp only [he,Td];split <;> simp
  ·simp [he]
 cases i with
 |fl x=>
  by_cases hx:∃m,x=.mt m
  ·obtain ⟨m,rfl⟩:=hx;simp only [dst];cases cH (cL L d) m with
   |ref=>exact ref
   |ex r=>exact gt _
   |op nd r=>exact Nat.le_of_eq uY
  ·have e:dst L (.fl x) d=([],eM L (qn L d (fun t=>x.takes t)) d):=by
    cases x with
    |mt m=>exact absurd ⟨m,rfl⟩ hx
    |_=>rfl
   rw [e];exact (Et rfl).1
 |lv n=>exact Nat.le_of_eq On
 |_=>exact gt _
theorem lB {K K':List It}{d d':D}(h:lV L K d K' d'):ms L d'<=ms L d:=by
 induction h with
 |refl=>exact gt _
 |step _ ih=>exact QQ ih MW
theorem bH {i:It}{d d':D}(h:Ib L i d d'):ms L d'<=ms L d:=lB (h [])
theorem Ms {L:List Tv}{x:Fl}{d:D}:ms L (iY L x d)<=ms L d/\(0<ms L d->ms L (iY L x d)<ms L d):=Et rfl
theorem Ou {d:D}{k:Int}:Ib L (.fl (.wd k ts)) d (iY L (.wd k ts) d):=iI aC
theorem Qi {d:D}:Ib L (.fl .nm) d (iY L .nm d):=iI cP
theorem Qj {d:D}:Ib L (.fl .cs) d (iY L .cs d):=iI Em
theorem aA {d:D}{x:Fl}{r:List Fl}(h:qn L d (fun t=>Fl.takes t x)=true):bu (cL L d) (.row (x :: r))=some (.all (x :: r)):=by
 unfold qn at h;cases hn:cL L d with
 |none=>rw [hn] at h;cases h
 |some t=>
  rw [hn] at h;simp only [Option.elim] at h;simp [bu,Pk.pick,h]
theorem aL {d:D}{x:Fl}{r:List Fl}(h:qn L d (fun t=>Fl.takes t x)=false):bu (cL L d) (.row (x :: r))=none:=by
 unfold qn at h;cases hn:cL L d with
 |none=>rfl
 |some t=>
  rw [hn] at h;simp only [Option.elim] at h;simp [bu,Pk.pick,h]
structure Lp (L:List Tv) (p:Pk) (d0 d:D):Prop where
 go:∀d2,Ib L (.again p) d d2->Ib L (.again p) d0 d2
 le:ms L d<=ms L d0
 pn:Pn d0->Pn d
theorem Lp.refl {L:List Tv}{p:Pk}{d:D}:Lp L p d d:=⟨fun _ h=>h,gt _,fun h=>h⟩
theorem Lp.step {L:List Tv}{p:Pk}{d0 d d1:D}{i:It}(h:Lp L p d0 d) (hp:bu (cL L d) p=some i) (hi:Ib L i d d1):Lp L p d0 d1:=
 ⟨fun d2 h2=>h.go d2 (bj hp hi h2),QQ (bH hi) h.le,fun hn=>Oe (h.pn hn) (lQ hp) hi⟩
theorem Lp.fin {p:Pk}{d0 d:D}(h:Lp L p d0 d) (hp:bu (cL L d) p=none):Ib L (.again p) d0 d:=h.go d (qX hp)
def nj:List Ev->List (Int × Nat) × Nat->List (Int × Nat) × Nat
 |[],x=>x
 |e :: o,(p,s)=>if e.k=1 then nj o (p++[(e.n,s+1)],s+1) else if e.k=3 then nj o (p.dropLast,s) else nj o (p,s)
theorem nh:∀(a b:List Ev) (x:List (Int × Nat) × Nat),nj (a++b) x=nj b (nj a x)
 |[],b,x=>rfl
 |e :: a,b,(p,s)=>by
  simp only [Rh,nj]
  split
  ·exact nh a b _
  ·split
   ·exact nh a b _
   ·exact nh a b _
def lC (d:D) (o:List Ev):D:={ d with p:=(nj o (d.p,d.s)).1,s:=(nj o (d.p,d.s)).2,v:=d.v++o }
theorem iy (d:D):lC d []=d:=by simp [lC,nj]
theorem DU (d:D) (a b:List Ev):lC (lC d a) b=lC d (a++b):=by simp [lC,nh]
def bad (k:Dk) (t:Tv):Prop:=(t.k == k.kd)=false/\(k=.detail->(t.is [91] || t.is [46] || t.is [40])=true)
def Og (ts:List ByteArray):Bool:=ts.all (fun s=>!(s.toList == [91] || s.toList == [46] || s.toList == [40]))
def blk (k:Dk):It->Bool
 |.fl (.wd q ts)=>match k with
  |.declaration=>q == 2
  |.bracket=>q == 6
  |.detail=>q == 6 || Og ts
 |_=>false
def Pa (k:Dk):It->Bool
 |.lv _=>match k with|.detail=>true|_=>false
 |.once (.row (.wd q ts :: _))=>match k with
  |.declaration=>false
  |.bracket=>q == 6
  |.detail=>q == 6 || Og ts
 |.again (.row (.wd q ts :: _))=>match k with
  |.detail=>q == 6 || Og ts
  |_=>false
 |.once (.fn _)=>match k with|.detail=>true|_=>false
 |.again (.fn _)=>match k with|.detail=>true|_=>false
 |_=>false
def wK (k:Dk):List It->Bool
 |[]=>true
 |i :: K=>blk k i || (Pa k i && wK k K)
def jX (L:List Tv) (K:List It) (d:D):Prop:=∃K' d',lV L K d K' d'/\d'.i=d.i/\(d'.e=120\/(K'=[]/\d'.e=0))
theorem jX.step {L:List Tv}{i:It}{K:List It}{d:D}(h:jX L ((dst L i d).1++K) (dst L i d).2) (hi:(dst L i d).2.i=d.i):jX L (i :: K) d:=by
 obtain ⟨K',d',h1,h2,h3⟩:=h;exact ⟨K',d',.step h1,h2.trans hi,h3⟩
theorem eH {d:D}(h:cL L d=some t):d.e=0/\L[d.i]?=some t/\d.i<L.length:=by
 unfold cL at h
 split at h
 ·rename_i he
  exact ⟨he,h,(QT.1 h).1⟩
 ·cases h
theorem rX {L:List Tv}{K:List It}{d:D}{t:Tv}(hn:cL L d=some t) {x:Fl}(hx:∀m,x≠.mt m) (ht:x.takes t=false):jX L (.fl x :: K) d:=by
 obtain ⟨he,_,hi⟩:=eH hn;have hq:qn L d (fun t=>x.takes t)=false:=by unfold qn;rw [hn];exact ht
 refine ⟨K,_,iI hx K,?_,.inl ?_⟩
 ·rw [hq];simp [eM,he,hi]
 ·rw [hq];simp [eM,he,hi]
theorem ME (h:Og ts=true) (hb:(t.is [91] || t.is [46] || t.is [40])=true):kY ts t.t=false:=by
 refine T6.2 (fun s hs=>?_);have h1:=Ti.1 h s hs;simp only [Rj];intro e;subst e;unfold Tv.is at hb;rw [hb] at h1;cases h1
theorem yc {k:Dk}{q:Int}(hb:bad k t) (h:match k with|.declaration=>q == 2|.bracket=>q == 6|.detail=>q == 6 || Og ts):Fl.takes t (.wd q ts)=false:=by
 obtain ⟨h1,h2⟩:=hb;simp only [Fl.takes];cases k with
 |declaration=>
  simp only [RM] at h;subst h;simp only [Dk.kd] at h1;rw [h1];rfl
 |bracket=>
  simp only [RM] at h;subst h;simp only [Dk.kd] at h1;rw [h1];rfl
 |detail=>
  simp only [QY,RM] at h
  rcases h with rfl|h
  ·simp only [Dk.kd] at h1;rw [h1];rfl
  ·rw [ME h (h2 rfl),SX]
theorem rO {k:Dk}(hb:bad k t) {L:List Tv}:∀(K:List It) (d:D),wK k K=true->cL L d=some t->jX L K d
 |[],d,_,hn=>⟨[],d,.refl,rfl,.inr ⟨rfl,(eH hn).1⟩⟩
 |i :: K,d,h,hn=>by
  have thru:(dst L i d).1=[]->cL L (dst L i d).2=some t->(dst L i d).2.i=d.i->wK k K=true->jX L (i :: K) d:=fun e1 e2 e3 e4=>by
   refine jX.step ?_ e3;rw [e1];exact rO hb K _ e4 e2
  simp only [wK,QY,QR] at h
  rcases h with h|⟨h,hK⟩
  ·cases i with
   |fl x=>
    cases x with
    |wd q ts=>exact rX hn aC (yc hb (by cases k <;> exact h))
    |_=>cases h
   |_=>cases h
  ·cases i with
   |fl x=>cases h
   |lv n=>
    refine thru rfl ?_ ?_ hK
    ·simp only [dst,mN,(eH hn).1,Td]
     simpa [cL,(eH hn).1] using hn
    ·simp only [dst,mN,(eH hn).1,Td]
   |once p=>
    have hp:bu (cL L d) p=none:=by
     rw [hn];cases p with
     |fn q=>
      cases k with
      |detail=>
       have h2:=hb.2 rfl;simp only [bu];cases q with
       |declaration=>
        split
        ·have hv:t.is [118,97,114]=false/\t.is [99,111,110,115,116]=false/\t.is [112,114,111,99]=false:=by
          unfold Tv.is at h2 ⊢;simp only [QY,RM] at h2
          rcases h2 with (e|e)|e <;> rw [e] <;> decide
         simp [Dk.pick,hv.1,hv.2.1,hv.2.2]
        ·rfl
       |bracket=>rw [Eq (by rw [show Dk.bracket.kd=Dk.detail.kd from rfl,hb.1];decide)]
       |detail=>rw [Eq (by rw [hb.1];decide)]
      |_=>cases h
     |row r=>
      cases r with
      |nil=>rfl
      |cons x r=>
       cases x with
       |wd q ts=>
        have:Fl.takes t (.wd q ts)=false:=yc hb (by
         cases k with
         |declaration=>cases h
         |bracket=>exact h
         |detail=>exact h)
        simp [bu,Pk.pick,this]
       |_=>cases h
     |ex m=>cases h
    refine thru ?_ ?_ rfl hK
    ·simp only [dst,hp];rfl
    ·exact hn
   |again p=>
    have hp:bu (cL L d) p=none:=by
     rw [hn];cases p with
     |fn q=>
      cases k with
      |detail=>
       have h2:=hb.2 rfl;simp only [bu];cases q with
       |declaration=>
        split
        ·have hv:t.is [118,97,114]=false/\t.is [99,111,110,115,116]=false/\t.is [112,114,111,99]=false:=by
          unfold Tv.is at h2 ⊢;simp only [QY,RM] at h2
          rcases h2 with (e|e)|e <;> rw [e] <;> decide
         simp [Dk.pick,hv.1,hv.2.1,hv.2.2]
        ·rfl
       |bracket=>rw [Eq (by rw [show Dk.bracket.kd=Dk.detail.kd from rfl,hb.1];decide)]
       |detail=>rw [Eq (by rw [hb.1];decide)]
      |_=>cases h
     |row r=>
      cases r with
      |nil=>rfl
      |cons x r=>
       cases x with
       |wd q ts=>
        have:Fl.takes t (.wd q ts)=false:=yc hb (by
         cases k with
         |detail=>exact h
         |_=>cases h)
        simp [bu,Pk.pick,this]
       |_=>cases h
     |ex m=>cases h
    refine thru ?_ ?_ rfl hK
    ·simp only [dst,hp];rfl
    ·exact hn
   |all r=>cases h
def NX:Fl->Bool
 |.mt _=>false
 |_=>true
def G4:It->Bool
 |.fl x=>NX x
 |_=>false
def KD:List Fl->Bool
 |[]=>true
 |x :: r=>KD r && (NX x || (match r with|[]=>true|y :: _=>blk .detail (.fl y)))
def Ot:It->Bool
 |.all r=>KD r
 |.once (.row r)=>KD r
 |.once _=>true
 |.again (.row r)=>KD r && Pa .detail (.again (.row r))
 |.again (.fn _)=>true
 |.again (.ex _)=>false
 |_=>true
def Ox:It->Option Dk
 |.once (.fn k)=>some k
 |.again (.fn k)=>some k
 |_=>none
def nw:List It->Bool
 |[]=>true
 |i :: K=>nw K && (Ot i && ((G4 i || wK .detail K) && (match Ox i with|some k=>wK k K|none=>true)))
def N2 (k:Dk):List It->Bool
 |[]=>match k with|.detail=>true|_=>false
 |i :: K=>blk k i || (Pa k i && N2 k K)
def Om:List It->Bool
 |[]=>true
 |i :: K=>Om K && (Ot i && ((G4 i || N2 .detail K) && (match Ox i with|some k=>N2 k K|none=>true)))
theorem rN {k:Dk}{K:List It}(hK:wK .detail K=true):∀(r:List It),N2 k r=true->wK k (r++K)=true
 |[],h=>by cases k <;> first|exact hK|cases h
 |i :: r,h=>by
  simp only [N2,QY,QR] at h;simp only [Rh,wK,QY,QR];exact h.imp id (fun h=>⟨h.1,rN hK r h.2⟩)
theorem xy {K:List It}(hn:nw K=true) (hK:wK .detail K=true):∀(r:List It),Om r=true->nw (r++K)=true
 |[],_=>hn
 |i :: r,h=>by
  simp only [Om,QR,QY] at h;simp only [Rh,nw,QR,QY];refine ⟨xy hn hK r h.1,h.2.1,h.2.2.1.imp id (rN hK r),?_⟩;have h3:=h.2.2.2;cases hf:Ox i with
  |none=>rfl
  |some k=>rw [hf] at h3;exact rN hK r h3
def Gw.nx:Gw->Bool
 |.op nd r=>Om (r++[.lv nd])
 |.ex r=>Om r
 |.ref=>true
theorem wP (s:ByteArray):(cd s).nx=true:=by
 unfold cd
 repeat' split
 all_goals kernel_rfl
theorem Fu (o:Option Tv) (m:M):(cH o m).nx=true:=by
 cases m with
 |kind=>
  simp only [cH]
  by_cases h1:o.elim false (wk 2 ⟨#[97,114,114,97,121]⟩)=true
  ·rw [IO h1];kernel_rfl
  ·rw [Eq h1]
   by_cases h2:o.elim false (wk 2 ⟨#[114,101,99,111,114,100]⟩)=true
   ·rw [IO h2];kernel_rfl
   ·rw [Eq h2];kernel_rfl
 |statement=>
  cases o with
  |none=>rfl
  |some t=>
   simp only [cH]
   by_cases h1:(t.k == 1)=true
   ·rw [IO h1];kernel_rfl
   ·rw [Eq h1]
    by_cases h2:(t.k == 2)=true
    ·rw [IO h2];exact wP t.t
    ·rw [Eq h2];rfl
 |factor=>
  cases o with
  |none=>rfl
  |some t=>
   simp only [cH,M.row]
   by_cases h1:(cC t == 25)=true
   ·rw [IO h1];kernel_rfl
   rw [Eq h1]
   by_cases h1:(cC t == 26)=true
   ·rw [IO h1];kernel_rfl
   rw [Eq h1]
   by_cases h1:(cC t == 27)=true
   ·rw [IO h1];kernel_rfl
   rw [Eq h1]
   by_cases h1:(cC t == 32)=true
   ·rw [IO h1];kernel_rfl
   rw [Eq h1]
   by_cases h1:(cC t == 28)=true
   ·rw [IO h1];kernel_rfl
   rw [Eq h1];rfl
 |_=>simp only [cH,M.row];kernel_rfl
theorem DF {K:List It}(hn:nw K=true) (hK:wK .detail K=true):∀(r:List Fl),KD r=true->nw (r.map It.fl++K)=true
 |[],_=>hn
 |x :: r,h=>by
  simp only [KD,QR,QY] at h;simp only [Sg,Rh,nw,QR,QY];refine ⟨DF hn hK r h.1,rfl,h.2.imp id (fun h2=>?_),rfl⟩;cases r with
  |nil=>exact hK
  |cons y r=>
   simp only [Sg,Rh,wK,QY];exact .inl h2
theorem nr {i:It}{K:List It}(h:nw (i :: K)=true):nw K=true/\Ot i=true/\(G4 i=false->wK .detail K=true)/\(∀k,Ox i=some k->wK k K=true):=by
 simp only [nw,QR,QY] at h;refine ⟨h.1,h.2.1,fun e=>h.2.2.1.resolve_left (by rw [e];decide),fun k e=>?_⟩;have:=h.2.2.2;rw [e] at this;exact this
theorem ri {p:Pk}{j:It}(h:bu o p=some j) (hp:∀r,p=.row r->KD r=true):Ot j=true/\Ox j=none/\G4 j=false:=by
 cases o with
 |none=>cases h
 |some t=>
  cases p with
  |fn d=>
   simp only [bu] at h
   split at h
   ·simp only [Q9] at h;obtain ⟨m,_,rfl⟩:=h;exact ⟨rfl,rfl,rfl⟩
   ·cases h
  |row r=>
   simp only [bu,Pk.pick] at h
   split at h
   ·cases h;exact ⟨hp r rfl,rfl,rfl⟩
   ·cases h
  |ex m=>
   simp only [bu,Pk.pick] at h
   split at h
   ·cases h
   ·cases h;exact ⟨rfl,rfl,rfl⟩
theorem MV {L:List Tv}{i:It}{K:List It}{d:D}(h:nw (i :: K)=true):nw ((dst L i d).1++K)=true:=by
 obtain ⟨h1,h2,h3,h4⟩:=nr h;cases i with
 |fl x=>
  by_cases hx:∃m,x=.mt m
  ·obtain ⟨m,rfl⟩:=hx;have hr:=Fu (cL L d) m;simp only [dst];cases hd:cH (cL L d) m with
   |ref=>exact h1
   |ex r=>rw [hd] at hr;exact xy h1 (h3 rfl) r hr
   |op nd r=>rw [hd] at hr;exact xy h1 (h3 rfl) _ hr
  ·have e:dst L (.fl x) d=([],eM L (qn L d (fun t=>x.takes t)) d):=by
    cases x with
    |mt m=>exact absurd ⟨m,rfl⟩ hx
    |_=>rfl
   rw [e];exact h1
 |lv n=>exact h1
 |all r=>exact DF h1 (h3 rfl) r h2
 |once p=>
  simp only [dst];cases hp:bu (cL L d) p with
  |none=>exact h1
  |some j=>
   obtain ⟨a,b,c⟩:=ri hp (fun r e=>by subst e;exact h2);show nw (j :: K)=true;simp only [nw,QR,QY,a,b,h1,h3 rfl,and_self,or_true]
 |again p=>
  simp only [dst];cases hp:bu (cL L d) p with
  |none=>exact h1
  |some j=>
   have hr:(∀r,p=.row r->KD r=true)/\Pa .detail (.again p)=true:=by
    cases p with
    |fn k=>exact ⟨(fun r e=>by cases e),rfl⟩
    |row r=>
     simp only [Ot,QR] at h2;exact ⟨(fun r' e=>by cases e;exact h2.1),h2.2⟩
    |ex m=>cases h2
   obtain ⟨a,b,c⟩:=ri hp hr.1;show nw (j :: .again p :: K)=true
   have hs:wK .detail (.again p :: K)=true:=by
    simp only [wK,QY,QR];exact .inr ⟨hr.2,h3 rfl⟩
   rw [nw];simp only [QR,QY,a,b,h,hs,and_self,or_true]
theorem IQ:nw (bY++[.lv 1])=true:=by kernel_rfl
end Go.Proofs.YtjiepkenkcgkhaaGreatDoor
