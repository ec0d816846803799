import Derived.Test.YtnljjdhodelhdaaGreatDoorM01
set_option linter.unusedVariables false
set_option linter.unusedSimpArgs false
namespace Go.Proofs.YtnljjdhodelhdaaGreatDoor
open Go.RowKit
variable {L:List Tv}{t:Tv}{n:Int}{ts:List ByteArray}{o:Option Tv}
inductive M|block|variables|constants|procedure|params|param|typed|kind|member|body|statement|expr|rel|sum|term|factor|object|index|selection|args|list
deriving DecidableEq
inductive Dk|declaration|bracket|detail
deriving DecidableEq
inductive Fl|wd (k:Int) (ts:List ByteArray)|nm|cs|mt (m:M)
inductive Pk|fn (d:Dk)|row (r:List Fl)|ex (m:M)
inductive It|fl (x:Fl)|lv (n:Int)|once (p:Pk)|again (p:Pk)|all (r:List Fl)
theorem tK {a b:ByteArray}(h:a.toList=b.toList):a=b:=by
 rw [SO,SO] at h;have:=SU.1 h;cases a;cases b;simp_all
theorem Gm (a b:ByteArray):(a.toList == b.toList)=decide (a=b):=by
 by_cases e:a=b
 ·subst e;simp
 ·have:¬a.toList=b.toList:=fun h=>e (tK h)
  simp [e,this]
def k9 (l:List ByteArray) (s:ByteArray):Bool:=l.any (fun x=>decide (s=x))
def Tv.is (t:Tv) (l:List UInt8):Bool:=t.t.toList == l
def Fl.takes (t:Tv):Fl->Bool
 |.wd k ts=>t.k == k && k9 ts t.t
 |.nm=>t.k == 1
 |.cs=>t.k == 3 || t.k == 4 || t.k == 5
 |.mt _=>false
def cG (t:Tv):Int:=
 if t.k == 6 && t.is [45] then 25 else if t.k == 2 && t.is [110,111,116] then 26 else if t.k == 6 && t.is [40] then 27
 else if t.k == 3 || t.k == 4 || t.k == 5 then 32 else if t.k == 1 then 28 else 0
def Dk.pick (t:Tv):Dk->Option M
 |.declaration=>if t.is [118,97,114] then some .variables else if t.is [99,111,110,115,116] then some .constants else if t.is [112,114,111,99] then some .procedure else none
 |.bracket=>if t.is [40] then some .params else none
 |.detail=>if t.is [91] then some .index else if t.is [46] then some .selection else if t.is [40] then some .args else none
def Pk.pick (t:Tv):Pk->Option It
 |.fn d=>(d.pick t).map (fun m=>.fl (.mt m))
 |.row r=>if (r.head?.elim false (fun x=>x.takes t)) then some (.all r) else none
 |.ex m=>if cG t == 0 then none else some (.fl (.mt m))
def GV (p:Pk):Option It->List It
 |none=>[]
 |some i=>[i,.again p]
inductive Gw|ref|ex (r:List It)|op (n:Int) (r:List It)
def cf (s:ByteArray):Gw:=
 if s.toList == [115,107,105,112] then .op 13 [.fl (.wd 2 [s])]
 else if s.toList == [105,102] then .op 15 [.fl (.wd 2 [s]),.fl (.mt .expr),.fl (.wd 2 [⟨#[116,104,101,110]⟩]),.fl (.mt .body),.again (.row [.wd 2 [⟨#[101,108,105,102]⟩],.mt .expr,.wd 2 [⟨#[116,104,101,110]⟩],.mt .body]),.once (.row [.wd 2 [⟨#[101,108,115,101]⟩],.mt .body]),.fl (.wd 2 [⟨#[101,110,100]⟩])]
 else if s.toList == [119,104,105,108,101] then .op 16 [.fl (.wd 2 [s]),.fl (.mt .expr),.fl (.wd 2 [⟨#[100,111]⟩]),.fl (.mt .body),.fl (.wd 2 [⟨#[101,110,100]⟩])]
 else if s.toList == [102,111,114] then .op 17 [.fl (.wd 2 [s]),.fl (.nm),.fl (.wd 6 [⟨#[58,61]⟩]),.fl (.mt .expr),.fl (.wd 2 [⟨#[116,111]⟩]),.fl (.mt .expr),.fl (.wd 2 [⟨#[100,111]⟩]),.fl (.mt .body),.fl (.wd 2 [⟨#[101,110,100]⟩])]
 else if s.toList == [114,101,112,101,97,116] then .op 18 [.fl (.wd 2 [s]),.fl (.mt .body),.fl (.wd 2 [⟨#[117,110,116,105,108]⟩]),.fl (.mt .expr)]
 else if s.toList == [114,101,116,117,114,110] then .op 19 [.fl (.wd 2 [s]),.once (.ex .expr)]
 else if s.toList == [98,101,103,105,110] then .op 20 [.fl (.wd 2 [s]),.fl (.mt .body),.fl (.wd 2 [⟨#[101,110,100]⟩])]
 else .ref
def M.row (t:Tv):M->Gw
 |.block=>.op 2 [.again (.fn .declaration),.fl (.wd 2 [⟨#[98,101,103,105,110]⟩]),.fl (.mt .body),.fl (.wd 2 [⟨#[101,110,100]⟩])]
 |.variables=>.op 3 [.fl (.wd 2 [⟨#[118,97,114]⟩]),.fl (.mt .typed),.fl (.wd 6 [⟨#[59]⟩])]
 |.constants=>.op 4 [.fl (.wd 2 [⟨#[99,111,110,115,116]⟩]),.fl (.nm),.fl (.wd 6 [⟨#[61]⟩]),.fl (.mt .expr),.fl (.wd 6 [⟨#[59]⟩])]
 |.params=>.op 6 [.fl (.wd 6 [⟨#[40]⟩]),.fl (.mt .param),.again (.row [.wd 6 [⟨#[59]⟩],.mt .param]),.fl (.wd 6 [⟨#[41]⟩])]
 |.param=>.op 7 [.fl (.mt .typed)]
 |.typed=>.ex [.fl (.nm),.again (.row [.wd 6 [⟨#[44]⟩],.nm]),.fl (.wd 6 [⟨#[58]⟩]),.fl (.mt .kind)]
 |.member=>.op 11 [.fl (.mt .typed)]
 |.body=>.op 12 [.fl (.mt .statement),.again (.row [.wd 6 [⟨#[59]⟩],.mt .statement])]
 |.expr=>.op 21 [.fl (.mt .rel),.again (.row [.wd 2 [⟨#[97,110,100]⟩,⟨#[111,114]⟩],.mt .rel])]
 |.rel=>.op 22 [.fl (.mt .sum),.once (.row [.wd 6 [⟨#[61]⟩,⟨#[35]⟩,⟨#[60]⟩,⟨#[60,61]⟩,⟨#[62]⟩,⟨#[62,61]⟩],.mt .sum])]
 |.sum=>.op 23 [.fl (.mt .term),.again (.row [.wd 6 [⟨#[43]⟩,⟨#[45]⟩],.mt .term])]
 |.term=>.op 24 [.fl (.mt .factor),.again (.row [.wd 6 [⟨#[42]⟩,⟨#[47]⟩,⟨#[37]⟩],.mt .factor])]
 |.object=>.op 28 [.fl (.nm),.again (.fn .detail)]
 |.index=>.op 29 [.fl (.wd 6 [⟨#[91]⟩]),.fl (.mt .list),.fl (.wd 6 [⟨#[93]⟩])]
 |.selection=>.op 30 [.fl (.wd 6 [⟨#[46]⟩]),.fl (.nm)]
 |.args=>.op 31 [.fl (.wd 6 [⟨#[40]⟩]),.once (.ex .list),.fl (.wd 6 [⟨#[41]⟩])]
 |.list=>.ex [.fl (.mt .expr),.again (.row [.wd 6 [⟨#[44]⟩],.mt .expr])]
 |.procedure=>.op 5 [.fl (.wd 2 [⟨#[112,114,111,99]⟩]),.fl (.nm),.once (.fn .bracket),.once (.row [.wd 6 [⟨#[58]⟩],.mt .kind]),.fl (.wd 6 [⟨#[59]⟩]),.fl (.mt .block),.fl (.wd 6 [⟨#[59]⟩])]
 |.kind=>if t.k == 1 then .op 8 [.fl .nm] else if t.is [97,114,114,97,121] then .op 9 [.fl (.wd 2 [⟨#[97,114,114,97,121]⟩]),.fl (.wd 6 [⟨#[91]⟩]),.fl (.mt .expr),.fl (.wd 6 [⟨#[46,46]⟩]),.fl (.mt .expr),.fl (.wd 6 [⟨#[93]⟩]),.fl (.wd 2 [⟨#[111,102]⟩]),.fl (.mt .kind)] else if t.is [114,101,99,111,114,100] then .op 10 [.fl (.wd 2 [⟨#[114,101,99,111,114,100]⟩]),.fl (.mt .member),.again (.row [.wd 6 [⟨#[59]⟩],.mt .member]),.fl (.wd 2 [⟨#[101,110,100]⟩])] else .ref
 |.statement=>if t.k == 1 then .op 14 [.fl (.mt .object),.once (.row [.wd 6 [⟨#[58,61]⟩],.mt .expr])] else cf t.t
 |.factor=>if cG t == 25 then .op 25 [.fl (.wd 6 [⟨#[45]⟩]),.fl (.mt .factor)] else if cG t == 26 then .op 26 [.fl (.wd 2 [⟨#[110,111,116]⟩]),.fl (.mt .factor)] else if cG t == 27 then .op 27 [.fl (.wd 6 [⟨#[40]⟩]),.fl (.mt .expr),.fl (.wd 6 [⟨#[41]⟩])] else if cG t == 32 then .op 32 [.fl (.cs)] else if cG t == 28 then .ex [.fl (.mt .object)] else .ref
def cd:List It:=[.fl (.wd 2 [⟨#[112,114,111,103,114,97,109]⟩]),.fl (.nm),.fl (.wd 6 [⟨#[59]⟩]),.fl (.mt .block),.fl (.wd 6 [⟨#[46]⟩])]
inductive Sr|tk|ref|go (d:Int) (o:List Ev) (r:List It)
def Gw.sr:Gw->Sr
 |.ref=>.ref
 |.ex r=>.go 0 [] r
 |.op nd r=>.go 1 [⟨1,nd,aC⟩] (r++[.lv nd])
def Fl.step (t:Tv):Fl->Sr
 |.mt m=>(M.row t m).sr
 |x=>if x.takes t then .tk else .ref
def It.step (t:Tv):It->Sr
 |.fl x=>x.step t
 |.lv n=>.go (-1) [⟨3,n,aC⟩] []
 |.once p=>.go 0 [] (Pk.pick t p).toList
 |.again p=>.go 0 [] (GV p (Pk.pick t p))
 |.all r=>.go 0 [] (r.map It.fl)
def KX (r:List Fl):Prop:=(∃k ts rest,r=Fl.wd k ts :: rest)/\r.length<=8
def Pk.wf:Pk->Prop
 |.row r=>KX r
 |_=>True
def It.wf:It->Prop
 |.once p=>p.wf
 |.again p=>p.wf
 |.all r=>KX r
 |_=>True
def jR (K:List It):Prop:=∀i∈K,i.wf
def bM:List It->List Int
 |[]=>[]
 |.lv n :: K=>n :: bM K
 |_ :: K=>bM K
theorem bP (a b:List It):bM (a++b)=bM a++bM b:=by
 induction a with
 |nil=>rfl
 |cons i r ih=>cases i <;> simp [bM,ih]
theorem jU (r:List Fl):bM (r.map It.fl)=[]:=by
 induction r with
 |nil=>rfl
 |cons x r ih=>simp [bM,ih]
theorem LP (r:List Fl):jR (r.map It.fl):=by
 intro i hi;obtain ⟨x,_,rfl⟩:=TE.1 hi
 trivial
theorem fH {a b:List It}(ha:jR a) (hb:jR b):jR (a++b):=fun i hi=>(Rm.1 hi).elim (ha i) (hb i)
theorem gU:jR []:=fun _ h=>by cases h
theorem ka {i:It}{K:List It}(hi:i.wf) (hK:jR K):jR (i :: K):=fun j hj=>(Rz.1 hj).elim (fun e=>e ▸ hi) (hK j)
def Gw.ok:Gw->Prop
 |.ref=>True
 |.ex r=>jR r/\r.length<=10/\bM r=[]
 |.op nd r=>jR r/\r.length<=10/\bM r=[]/\2<=nd/\nd<=32
theorem og (s:ByteArray):(cf s).ok:=by
 unfold cf
 repeat' split
 all_goals simp [Gw.ok,jR,It.wf,Pk.wf,KX,bM]
theorem gX (t:Tv) (m:M):(M.row t m).ok:=by
 cases m <;> simp only [M.row]
 case statement=>
  split
  ·simp [Gw.ok,jR,It.wf,Pk.wf,KX,bM]
  ·exact og _
 all_goals (repeat' split)
 all_goals simp [Gw.ok,jR,It.wf,Pk.wf,KX,bM]
theorem nr {p:Pk}(hp:p.wf) {i:It}(h:Pk.pick t p=some i):i.wf/\bM [i]=[]:=by
 cases p with
 |fn d=>
  simp only [Pk.pick,Rv] at h;obtain ⟨m,_,rfl⟩:=h;exact ⟨trivial,rfl⟩
 |row r=>
  simp only [Pk.pick] at h
  split at h
  ·cases h;exact ⟨hp,rfl⟩
  ·cases h
 |ex m=>
  simp only [Pk.pick] at h
  split at h
  ·cases h
  ·cases h;exact ⟨trivial,rfl⟩
theorem fJ {t:Tv}{i:It}{d:Int}{o:List Ev}{r K:List It}(h:It.step t i=.go d o r) (hi:i.wf) :
  jR r/\r.length<=11/\o.length<=1/\((bM (r++K)).length:Int)=(bM (i :: K)).length+d:=by
 cases i with
 |fl x=>
  have hm:∃m,x=.mt m:=by
   cases x with
   |mt m=>exact ⟨m,rfl⟩
   |_=>simp only [It.step,Fl.step] at h;split at h <;> cases h
  obtain ⟨m,rfl⟩:=hm;have hr:=gX t m;simp only [It.step,Fl.step] at h;cases hrow:M.row t m with
  |ref=>rw [hrow] at h;cases h
  |ex r'=>
   rw [hrow] at h hr;cases h;refine ⟨hr.1,by have:=hr.2.1;omega,by simp,?_⟩;rw [bP,hr.2.2];simp [bM]
  |op nd r'=>
   rw [hrow] at h hr;cases h;refine ⟨fH hr.1 (ka trivial gU),by have:=hr.2.1;simp;omega,by simp,?_⟩;rw [bP,bP,hr.2.2.1];simp [bM]
 |lv n=>
  cases h;refine ⟨gU,by simp,by simp,?_⟩;simp [bM];omega
 |once p=>
  simp only [It.step] at h;cases hp:Pk.pick t p with
  |none=>rw [hp] at h;cases h;exact ⟨gU,by simp,by simp,by simp [bM]⟩
  |some j=>
   rw [hp] at h;cases h;have:=nr hi hp;refine ⟨ka this.1 gU,by simp,by simp,?_⟩;show ((bM ([j]++K)).length:Int)=_;rw [bP,this.2];simp [bM]
 |again p=>
  simp only [It.step] at h;cases hp:Pk.pick t p with
  |none=>rw [hp] at h;cases h;exact ⟨gU,by simp [GV],by simp,by simp [bM,GV]⟩
  |some j=>
   rw [hp] at h;cases h;have:=nr hi hp;refine ⟨ka this.1 (ka hi gU),by simp [GV],by simp,?_⟩;show ((bM ([j]++([.again p]++K))).length:Int)=_;rw [bP,this.2];simp [bM]
 |all r'=>
  cases h;refine ⟨LP r',by have:=hi.2;simp;omega,by simp,?_⟩;rw [bP,jU];simp [bM]
inductive Ro|no|yes (K:List It) (n:Int) (E:List Ev)
inductive Ru (t:Tv):Nat->List It->Int->List Ev->Ro->Prop
 |nil {n:Int} {E:List Ev}:Ru t 0 [] n E .no
 |ref {i:It} {K:List It} {n:Int} {E:List Ev}:It.step t i=.ref->Ru t 0 (i :: K) n E .no
 |tk {i:It} {K:List It} {n:Int} {E:List Ev}:It.step t i=.tk->Ru t 0 (i :: K) n E (.yes K n E)
 |go {k:Nat} {i:It} {K:List It} {n d:Int} {E o:List Ev} {r:List It} {R:Ro}:It.step t i=.go d o r->Ru t k (r++K) (n+d) (E++o) R->Ru t (k+1) (i :: K) n E R
def fE (t:Tv) (c:Nat) (i:It):Prop:=∀K n E,∃k R,k<=c/\Ru t k (i :: K) n E R
theorem je (t:Tv) (x:Fl) (hx:∀m,x≠.mt m) (c:Nat):fE t c (.fl x):=by
 intro K n E
 have h:It.step t (.fl x)=if x.takes t then .tk else .ref:=by
  cases x with
  |mt m=>exact absurd rfl (hx m)
  |_=>rfl
 by_cases hb:x.takes t=true
 ·rw [IO hb] at h;exact ⟨0,_,QU _,.tk h⟩
 ·rw [Eq hb] at h;exact ⟨0,_,QU _,.ref h⟩
theorem bY {t:Tv}{i j:It}{d:Int}{o:List Ev}{r:List It}{c:Nat}(h:It.step t i=.go d o (j :: r)) (hj:fE t c j):fE t (c+1) i:=by
 intro K n E;obtain ⟨k,R,hk,hR⟩:=hj (r++K) (n+d) (E++o);exact ⟨k+1,R,by omega,.go h hR⟩
theorem fE.up {c c':Nat}{i:It}(h:fE t c i) (hc:c<=c'):fE t c' i:=by
 intro K n E;obtain ⟨k,R,hk,hR⟩:=h K n E;exact ⟨k,R,by omega,hR⟩
theorem DC {i:It}(h:It.step t i=.ref) (c:Nat):fE t c i:=fun K n E=>⟨0,_,QU _,.ref h⟩
theorem aD {k:Int}:∀m,Fl.wd k ts≠.mt m:=fun m h=>by cases h
theorem cU:∀m,Fl.nm≠.mt m:=fun m h=>by cases h
theorem EG:∀m,Fl.cs≠.mt m:=fun m h=>by cases h
theorem oG {t:Tv}{i:It}{d:Int}{o:List Ev}{x:Fl}{r:List It}(h:It.step t i=.go d o (.fl x :: r)) (hx:∀m,x≠.mt m):fE t 1 i:=bY h (je t x hx 0)
theorem ir (t:Tv):fE t 1 (.fl (.mt .object)):=oG rfl cU
theorem jS (t:Tv):fE t 1 (.fl (.mt .typed)):=oG rfl cU
theorem oH {t:Tv}{m:M}{c:Nat}(R:Gw) (hR:M.row t m=R) (h:R=.ref\/(∃x r,(∀m,x≠Fl.mt m)/\(R=.ex (.fl x :: r)\/∃nd,R=.op nd (.fl x :: r)))):fE t 1 (.fl (.mt m)):=by
 have hs:It.step t (.fl (.mt m))=R.sr:=by simp only [It.step,Fl.step,hR]
 rcases h with rfl|⟨x,r,hx,rfl|⟨nd,rfl⟩⟩
 ·exact DC hs 1
 ·exact oG hs hx
 ·exact oG (d:=1) (o:=[⟨1,nd,aC⟩]) (x:=x) (r:=r++[It.lv nd]) hs hx
theorem mo (t:Tv):fE t 2 (.fl (.mt .factor)):=by
 by_cases h:cG t=28
 ·have hs:It.step t (.fl (.mt .factor))=.go 0 [] [.fl (.mt .object)]:=by simp [It.step,Fl.step,M.row,h,Gw.sr]
  exact bY hs (ir t)
 ·refine (oH (c:=0) _ rfl ?_).up (by omega);have h':(cG t == 28)=false:=by simpa using h
  simp only [M.row,h',Rp,R7]
  repeat' split
  all_goals first
   |exact .inl rfl
   |exact .inr ⟨_,_,aD,.inr ⟨_,rfl⟩⟩
   |exact .inr ⟨_,_,EG,.inr ⟨_,rfl⟩⟩
   | (rename_i hh;simp at hh)
theorem A0 (t:Tv):fE t 1 (.fl (.mt .kind)):=by
 refine oH (c:=0) _ rfl ?_;simp only [M.row]
 repeat' split
 all_goals first
  |exact .inl rfl
  |exact .inr ⟨_,_,aD,.inr ⟨_,rfl⟩⟩
  |exact .inr ⟨_,_,cU,.inr ⟨_,rfl⟩⟩
theorem iq (t:Tv):fE t 2 (.fl (.mt .statement)):=by
 by_cases h:(t.k == 1)=true
 ·have hs:It.step t (.fl (.mt .statement))=.go 1 [⟨1,14,aC⟩] ([.fl (.mt .object),.once (.row [.wd 6 [⟨#[58,61]⟩],.mt .expr])]++[.lv 14]):=by simp [It.step,Fl.step,M.row,h,Gw.sr]
  exact bY (r:=[.once (.row [.wd 6 [⟨#[58,61]⟩],.mt .expr]),.lv 14]) hs (ir t)
 ·refine (oH (c:=0) _ rfl ?_).up (by omega);have h':(t.k == 1)=false:=by simpa using h
  simp only [M.row,h',Rp,R7,cf]
  repeat' split
  all_goals first
   |exact .inl rfl
   |exact .inr ⟨_,_,aD,.inr ⟨_,rfl⟩⟩
   | (rename_i hh;simp at hh)
theorem qI (t:Tv):fE t 3 (.fl (.mt .term)):=bY rfl (mo t)
theorem uy (t:Tv):fE t 4 (.fl (.mt .sum)):=bY rfl (qI t)
theorem uz (t:Tv):fE t 5 (.fl (.mt .rel)):=bY rfl (uy t)
theorem qK (t:Tv):fE t 6 (.fl (.mt .expr)):=bY rfl (uz t)
theorem eh (t:Tv) (m:M) (h:m=.variables\/m=.constants\/m=.procedure\/m=.params\/m=.index\/m=.selection\/m=.args):fE t 1 (.fl (.mt m)):=by
 rcases h with rfl|rfl|rfl|rfl|rfl|rfl|rfl <;> exact oG rfl aD
theorem nT {d:Dk}{m:M}(h:d.pick t=some m):m=.variables\/m=.constants\/m=.procedure\/m=.params\/m=.index\/m=.selection\/m=.args:=by
 cases d <;> simp only [Dk.pick] at h <;> repeat' (split at h)
 all_goals first|(cases h;done)|(cases h;simp)
theorem xj (t:Tv):fE t 4 (.fl (.mt .block)):=by
 intro K n E;have hs:It.step t (.fl (.mt .block))=.go 1 [⟨1,2,aC⟩] (.again (.fn .declaration) :: .fl (.wd 2 [⟨#[98,101,103,105,110]⟩]) :: [.fl (.mt .body),.fl (.wd 2 [⟨#[101,110,100]⟩]),.lv 2]):=rfl;cases hp:Dk.pick t .declaration with
 |none=>
  have h2:It.step t (.again (.fn .declaration))=.go 0 [] []:=by simp [It.step,Pk.pick,hp,GV]
  obtain ⟨k,R,hk,hR⟩:=je t (.wd 2 [⟨#[98,101,103,105,110]⟩]) aD 0 ([.fl (.mt .body),.fl (.wd 2 [⟨#[101,110,100]⟩]),.lv 2]++K) (n+1+0) (E++[⟨1,2,aC⟩]++[]);exact ⟨k+1+1,R,by omega,.go hs (.go h2 hR)⟩
 |some m=>
  have h2:It.step t (.again (.fn .declaration))=.go 0 [] (.fl (.mt m) :: [.again (.fn .declaration)]):=by simp [It.step,Pk.pick,hp,GV]
  exact ((bY hs (bY h2 (eh t m (nT hp)))).up (by omega)) K n E
theorem rT (t:Tv) (m:M):fE t 8 (.fl (.mt m)):=by
 cases m with
 |block=>exact (xj t).up (by omega)
 |variables=>exact (eh t _ (by simp)).up (by omega)
 |constants=>exact (eh t _ (by simp)).up (by omega)
 |procedure=>exact (eh t _ (by simp)).up (by omega)
 |params=>exact (eh t _ (by simp)).up (by omega)
 |param=>exact (bY rfl (jS t)).up (by omega)
 |typed=>exact (jS t).up (by omega)
 |kind=>exact (A0 t).up (by omega)
 |member=>exact (bY rfl (jS t)).up (by omega)
 |body=>exact (bY rfl (iq t)).up (by omega)
 |statement=>exact (iq t).up (by omega)
 |expr=>exact (qK t).up (by omega)
 |rel=>exact (uz t).up (by omega)
 |sum=>exact (uy t).up (by omega)
 |term=>exact (qI t).up (by omega)
 |factor=>exact (mo t).up (by omega)
 |object=>exact (ir t).up (by omega)
 |index=>exact (eh t _ (by simp)).up (by omega)
 |selection=>exact (eh t _ (by simp)).up (by omega)
 |args=>exact (eh t _ (by simp)).up (by omega)
 |list=>exact (bY rfl (qK t)).up (by omega)
theorem qJ (t:Tv) (x:Fl):fE t 8 (.fl x):=by
 cases x with
 |mt m=>exact rT t m
 |_=>exact je t _ (fun m h=>by cases h) 8
theorem jd {p:Pk}(hp:p.wf) {i:It}(h:Pk.pick t p=some i):fE t 9 i:=by
 cases p with
 |fn d=>
  simp only [Pk.pick,Rv] at h;obtain ⟨m,_,rfl⟩:=h;exact (rT t m).up (by omega)
 |row r=>
  simp only [Pk.pick] at h
  split at h
  ·cases h;obtain ⟨⟨k,ts,rest,rfl⟩,_⟩:=hp;exact (bY (r:=rest.map It.fl) rfl (je t (.wd k ts) aD 0)).up (by omega)
  ·cases h
 |ex m=>
  simp only [Pk.pick] at h
  split at h
  ·cases h
  ·cases h;exact (rT t m).up (by omega)
theorem KY (t:Tv):∀(K:List It),jR K->∀n E,∃k R,k<=K.length+20/\Ru t k K n E R
 |[],_,n,E=>⟨0,_,QU _,.nil⟩
 |i :: K,hw,n,E=>by
  have hi:i.wf:=hw i (QY ..);have hK:jR K:=fun j hj=>hw j (QZ _ hj)
  have pop:∀d o,It.step t i=.go d o []->∃k R,k<=(i :: K).length+20/\Ru t k (i :: K) n E R:=by
   intro d o h;obtain ⟨k,R,hk,hR⟩:=KY t K hK (n+d) (E++o);exact ⟨k+1,R,by simp;omega,.go h hR⟩
  have soon:∀c,c<=20->fE t c i->∃k R,k<=(i :: K).length+20/\Ru t k (i :: K) n E R:=by
   intro c hc h;obtain ⟨k,R,hk,hR⟩:=h K n E;exact ⟨k,R,by omega,hR⟩
  cases i with
  |fl x=>exact soon 8 (by omega) (qJ t x)
  |lv nd=>exact pop _ _ rfl
  |once p=>
   cases hp:Pk.pick t p with
   |none=>exact pop 0 [] (by simp [It.step,hp])
   |some j=>exact soon 10 (by omega) (bY (r:=[]) (by simp [It.step,hp];exact ⟨rfl,rfl⟩) (jd hi hp))
  |again p=>
   cases hp:Pk.pick t p with
   |none=>exact pop 0 [] (by simp [It.step,hp,GV])
   |some j=>exact soon 10 (by omega) (bY (r:=[.again p]) (by simp [It.step,hp,GV];exact ⟨rfl,rfl⟩) (jd hi hp))
  |all r=>
   obtain ⟨⟨k,ts,rest,rfl⟩,_⟩:=hi;exact soon 1 (by omega) (bY (r:=rest.map It.fl) rfl (je t (.wd k ts) aD 0))
structure D where
 i:Nat
 p:List (Int × Nat)
 s:Nat
 l:List (Int × Nat)
 e:Int
 v:List Ev
 N:Nat->List Ev
def cP (L:List Tv) (d:D):Option Tv:=if d.e=0 then L[d.i]? else none
def qn (L:List Tv) (d:D) (f:Tv->Bool):Bool:=(cP L d).elim false f
def eu (n:Int) (d:D):D:=if d.e=0 then { d with p:=d.p++[(n,d.s+1)],s:=d.s+1,v:=d.v++[⟨1,n,aC⟩] } else d
def mT (n:Int) (d:D):D:=if d.e=0 then { d with p:=d.p.dropLast,v:=d.v++[⟨3,n,aC⟩] } else d
def eU (L:List Tv) (r:Bool) (d:D):D:=
 if r then (if 1000<d.p.length then { d with e:=122 } else { d with i:=d.i+1,l:=if d.i+1=L.length then d.p else d.l,v:=d.v++⟨2,0,L[d.i]?.getD aC⟩ :: d.N d.i })
 else if d.e=0 then (if d.i<L.length then { d with e:=120 } else { d with e:=121 }) else d
def wk (k:Int) (s:ByteArray) (t:Tv):Bool:=t.k == k && decide (t.t=s)
def Dk.kd:Dk->Int
 |.declaration=>2
 |_=>6
def cJ (o:Option Tv):M->Gw
 |.kind=>if o.elim false (wk 2 ⟨#[97,114,114,97,121]⟩) then .op 9 [.fl (.wd 2 [⟨#[97,114,114,97,121]⟩]),.fl (.wd 6 [⟨#[91]⟩]),.fl (.mt .expr),.fl (.wd 6 [⟨#[46,46]⟩]),.fl (.mt .expr),.fl (.wd 6 [⟨#[93]⟩]),.fl (.wd 2 [⟨#[111,102]⟩]),.fl (.mt .kind)]
  else if o.elim false (wk 2 ⟨#[114,101,99,111,114,100]⟩) then .op 10 [.fl (.wd 2 [⟨#[114,101,99,111,114,100]⟩]),.fl (.mt .member),.again (.row [.wd 6 [⟨#[59]⟩],.mt .member]),.fl (.wd 2 [⟨#[101,110,100]⟩])] else .op 8 [.fl .nm]
 |.statement=>match o with
  |none=>.ref
  |some t=>if t.k == 1 then .op 14 [.fl (.mt .object),.once (.row [.wd 6 [⟨#[58,61]⟩],.mt .expr])] else if t.k == 2 then cf t.t else .ref
 |.factor=>match o with
  |none=>.ref
  |some t=>M.row t .factor
 |m=>M.row aC m
def bz (o:Option Tv) (p:Pk):Option It:=
 match o with
 |none=>none
 |some t=>match p with
  |.fn d=>if t.k == d.kd then (d.pick t).map (fun m=>.fl (.mt m)) else none
  |p=>Pk.pick t p
def dst (L:List Tv):It->D->List It × D
 |.fl (.mt m),d=>match cJ (cP L d) m with
  |.ref=>([],eU L false d)
  |.ex r=>(r,d)
  |.op nd r=>(r++[.lv nd],eu nd d)
 |.fl x,d=>([],eU L (qn L d (fun t=>x.takes t)) d)
 |.lv n,d=>([],mT n d)
 |.once p,d=>((bz (cP L d) p).toList,d)
 |.again p,d=>(GV p (bz (cP L d) p),d)
 |.all r,d=>(r.map It.fl,d)
inductive lY (L:List Tv):List It->D->List It->D->Prop
 |refl {K:List It} {d:D}:lY L K d K d
 |step {i:It} {K K':List It} {d d':D}:lY L ((dst L i d).1++K) (dst L i d).2 K' d'->lY L (i :: K) d K' d'
theorem lY.trans {K K1 K2:List It}{d d1 d2:D}(h:lY L K d K1 d1) (h':lY L K1 d1 K2 d2):lY L K d K2 d2:=by
 induction h with
 |refl=>exact h'
 |step _ ih=>exact .step (ih h')
theorem lY.det {K K1:List It}{d d1 d2:D}(h:lY L K d K1 d1) (h':lY L K d [] d2):lY L K1 d1 [] d2:=by
 induction h with
 |refl=>exact h'
 |step _ ih=>
  cases h' with
  |step h2=>exact ih h2
def Ib (L:List Tv) (i:It) (d d':D):Prop:=∀K,lY L (i :: K) d K d'
def Rb (L:List Tv) (r:List It) (d d':D):Prop:=∀K,lY L (r++K) d K d'
theorem aF {d:D}:Rb L [] d d:=fun K=>.refl
theorem aa {i:It}{r:List It}{d d1 d2:D}(h:Ib L i d d1) (h':Rb L r d1 d2):Rb L (i :: r) d d2:=fun K=>(h (r++K)).trans (h' K)
theorem iK {L:List Tv}{d:D}{x:Fl}(hx:∀m,x≠.mt m):Ib L (.fl x) d (eU L (qn L d (fun t=>x.takes t)) d):=fun K=>by
 refine .step ?_;cases x with
 |mt m=>exact absurd rfl (hx m)
 |_=>exact .refl
theorem Lg {L:List Tv}{d:D}{n:Int}:Ib L (.lv n) d (mT n d):=fun K=>.step .refl
theorem aU {L:List Tv}{d d':D}{m:M}{nd:Int}{r:List It}(h:cJ (cP L d) m=.op nd r) (h':Rb L (r++[.lv nd]) (eu nd d) d'):Ib L (.fl (.mt m)) d d':=fun K=>by
 refine .step ?_;have e:dst L (.fl (.mt m)) d=(r++[.lv nd],eu nd d):=by simp only [dst,h]
 rw [e];exact h' K
theorem rc {L:List Tv}{d d':D}{m:M}{r:List It}(h:cJ (cP L d) m=.ex r) (h':Rb L r d d'):Ib L (.fl (.mt m)) d d':=fun K=>by
 refine .step ?_;have e:dst L (.fl (.mt m)) d=(r,d):=by simp only [dst,h]
 rw [e];exact h' K
theorem sN {L:List Tv}{d:D}{m:M}(h:cJ (cP L d) m=.ref):Ib L (.fl (.mt m)) d (eU L false d):=fun K=>by
 refine .step ?_;have e:dst L (.fl (.mt m)) d=([],eU L false d):=by simp only [dst,h]
 rw [e];exact .refl
theorem aO {d d':D}{r:List Fl}(h:Rb L (r.map It.fl) d d'):Ib L (.all r) d d':=fun K=>.step (h K)
theorem bh {d:D}{p:Pk}(h:bz (cP L d) p=none):Ib L (.once p) d d:=fun K=>by
 refine .step ?_;simp only [dst,h];exact .refl
theorem bm {d d':D}{p:Pk}{i:It}(h:bz (cP L d) p=some i) (h':Ib L i d d'):Ib L (.once p) d d':=fun K=>by
 refine .step ?_;simp only [dst,h];exact h' K
theorem rf {d:D}{p:Pk}(h:bz (cP L d) p=none):Ib L (.again p) d d:=fun K=>by
 refine .step ?_;simp only [dst,h];exact .refl
theorem bp {d d1 d2:D}{p:Pk}{i:It}(h:bz (cP L d) p=some i) (h':Ib L i d d1) (h2:Ib L (.again p) d1 d2):Ib L (.again p) d d2:=fun K=>by
 refine .step ?_;simp only [dst,h];exact (h' (.again p :: K)).trans (h2 K)
def ms (L:List Tv) (d:D):Nat:=if d.e=0 then L.length-d.i+1 else 0
theorem vq {d:D}:ms L (eu n d)=ms L d:=by unfold eu;split <;> rfl
theorem OG {d:D}:ms L (mT n d)=ms L d:=by unfold mT;split <;> rfl
theorem zi {d:D}{f:Tv->Bool}(h:qn L d f=true):d.e=0/\d.i<L.length:=by
 unfold qn cP at h
 split at h
 ·rename_i he
  refine ⟨he,?_⟩;cases hl:L[d.i]? with
  |none=>rw [hl] at h;cases h
  |some t=>exact (Q7.1 hl).1
 ·cases h
theorem EM {L:List Tv}{d:D}{f:Tv->Bool}{r:Bool}(h:r=qn L d f):ms L (eU L r d)<=ms L d/\(0<ms L d->ms L (eU L r d)<ms L d):=by
 cases hr:r with
 |true=>
  rw [hr] at h;obtain ⟨he,hi⟩:=zi h.symm;unfold eU ms;simp only [SY]
  split
  ·simp [he]
  ·simp only [he,SY];omega
 |false=>
  unfold eU ms;simp only [Rp,R7]
  by_cases he:d.e=0
  ·simp only [he,SY]
   split <;> simp
  ·simp [he]
def Pn (d:D):Prop:=d.e=0->d.p≠[]
theorem uZ {d:D}(he:¬d.e=0):eu n d=d:=by unfold eu;rw [Eq he]
theorem wF {d:D}(he:¬d.e=0):mT n d=d:=by unfold mT;rw [Eq he]
def jb (L:List Tv) (x:Fl) (d:D):D:=eU L (qn L d (fun t=>x.takes t)) d
theorem qC (k:Int) (s:ByteArray) (t:Tv):wk k s t=(t.k == k && t.t.toList == s.toList):=by unfold wk;rw [Gm]
theorem Kd (o:Option Tv) (m:M):(cJ o m).ok:=by
 cases m with
 |kind=>
  simp only [cJ]
  repeat' split
  all_goals simp [Gw.ok,jR,It.wf,Pk.wf,KX,bM]
 |statement=>
  cases o with
  |none=>trivial
  |some t=>
   simp only [cJ]
   split
   ·simp [Gw.ok,jR,It.wf,Pk.wf,KX,bM]
   ·split
    ·exact og _
    ·trivial
 |factor=>
  cases o with
  |none=>trivial
  |some t=>exact gX t .factor
 |_=>simp only [cJ];exact gX aC _
theorem FT {o:Option Tv}{m:M}:(∀r,cJ o m=.ex r->bM r=[])/\(∀nd r,cJ o m=.op nd r->bM r=[]):=by
 have h:=Kd o m;constructor
 ·intro r e;rw [e] at h;exact h.2.2
 ·intro nd r e;rw [e] at h;exact h.2.2.1
theorem lT {p:Pk}{i:It}(h:bz o p=some i):bM [i]=[]:=by
 cases o with
 |none=>cases h
 |some t=>
  cases p with
  |fn d=>
   simp only [bz] at h
   split at h
   ·simp only [Rv] at h;obtain ⟨m,_,rfl⟩:=h;rfl
   ·cases h
  |row r=>
   simp only [bz,Pk.pick] at h
   split at h
   ·cases h;rfl
   ·cases h
  |ex m=>
   simp only [bz,Pk.pick] at h
   split at h
   ·cases h
   ·cases h;rfl
theorem oy {b:Bool}{d:D}(h:(eU L b d).e=0):b=true/\d.e=0/\(eU L b d).p=d.p/\d.p.length<=1000:=by
 unfold eU at h ⊢;cases b with
 |true=>
  simp only [SY] at h ⊢
  split at h
  ·cases h
  ·rename_i hd
   rw [Eq hd];exact ⟨trivial,h,rfl,by omega⟩
 |false=>
  simp only [Rp,R7] at h
  split at h
  ·split at h <;> cases h
  ·rename_i he;exact absurd h he
theorem Ew {n:Int}{d:D}:(eu n d).e=d.e:=by unfold eu;split <;> rfl
theorem wE {d:D}:(mT n d).e=d.e:=by unfold mT;split <;> rfl
theorem FP {i:It}{d:D}(h:(dst L i d).2.e=0):d.e=0/\∀(K:List It) (base q:List (Int × Nat)),d.p=base++q->q.map (·.1)=(bM (i :: K)).reverse->∃q',(dst L i d).2.p=base++q'/\q'.map (·.1)=(bM ((dst L i d).1++K)).reverse:=by
 cases i with
 |fl x=>
  by_cases hx:∃m,x=.mt m
  ·obtain ⟨m,rfl⟩:=hx;obtain ⟨l1,l2⟩:=FT (o:=cP L d) (m:=m);simp only [dst] at h ⊢;cases hr:cJ (cP L d) m with
   |ref=>
    rw [hr] at h;exact absurd (oy h).1 (by decide)
   |ex r=>
    rw [hr] at h;refine ⟨h,fun K base q e1 e2=>⟨q,e1,?_⟩⟩;rw [bP,l1 r hr];exact e2
   |op nd r=>
    rw [hr] at h;simp only at h ⊢;have he:d.e=0:=by rw [<-Ew (n:=nd)];exact h
    refine ⟨he,fun K base q e1 e2=>⟨q++[(nd,d.s+1)],?_,?_⟩⟩
    ·unfold eu;rw [IO he];simp [e1]
    ·rw [bP,bP,l2 nd r hr];simp only [bM,SQ,e2];simp
  ·have e:dst L (.fl x) d=([],eU L (qn L d (fun t=>x.takes t)) d):=by
    cases x with
    |mt m=>exact absurd ⟨m,rfl⟩ hx
    |_=>rfl
   rw [e] at h ⊢;obtain ⟨_,he,hp,_⟩:=oy h;exact ⟨he,fun K base q e1 e2=>⟨q,by rw [hp];exact e1,e2⟩⟩
 |lv n=>
  simp only [dst] at h ⊢;rw [wE] at h;refine ⟨h,fun K base q e1 e2=>⟨q.dropLast,?_,?_⟩⟩
  ·unfold mT;rw [IO h]
   have hq:q≠[]:=by
    intro hq;rw [hq] at e2;simp [bM] at e2
   show d.p.dropLast=_
   rw [e1,List.dropLast_append_of_ne_nil hq]
  ·rw [List.map_dropLast,e2];simp [bM]
 |once p=>
  simp only [dst] at h ⊢;refine ⟨h,fun K base q e1 e2=>⟨q,e1,?_⟩⟩;cases hp:bz (cP L d) p with
  |none=>exact e2
  |some i=>
   show _=(bM ([i]++K)).reverse
   rw [bP,lT hp];exact e2
 |again p=>
  simp only [dst] at h ⊢;refine ⟨h,fun K base q e1 e2=>⟨q,e1,?_⟩⟩;cases hp:bz (cP L d) p with
  |none=>exact e2
  |some i=>
   show _=(bM ([i]++(.again p :: K))).reverse
   rw [bP,lT hp];exact e2
 |all r=>
  simp only [dst] at h ⊢;refine ⟨h,fun K base q e1 e2=>⟨q,e1,?_⟩⟩;rw [bP,jU];exact e2
theorem oR {K K':List It}{d d':D}(h:lY L K d K' d') (hl:d'.e=0):d.e=0/\∀(base q:List (Int × Nat)),d.p=base++q->q.map (·.1)=(bM K).reverse->∃q',d'.p=base++q'/\q'.map (·.1)=(bM K').reverse:=by
 induction h with
 |refl=>exact ⟨hl,fun base q e1 e2=>⟨q,e1,e2⟩⟩
 |step _ ih=>
  obtain ⟨h1,h2⟩:=ih hl;obtain ⟨h3,h4⟩:=FP h1;refine ⟨h3,fun base q e1 e2=>?_⟩;obtain ⟨q1,e3,e4⟩:=h4 _ base q e1 e2;exact h2 base q1 e3 e4
theorem JL {i:It}{d d':D}(hi:bM [i]=[]) (h:Ib L i d d') (hl:d'.e=0):d.e=0/\d'.p=d.p:=by
 obtain ⟨h1,h2⟩:=oR (h []) hl;obtain ⟨q,e1,e2⟩:=h2 d.p [] (by simp) (by rw [hi];rfl);have:q=[]:=by simpa [bM] using e2
 exact ⟨h1,by rw [e1,this];simp⟩
theorem Ox {i:It}{d d':D}(h:Pn d) (hi:bM [i]=[]) (hb:Ib L i d d'):Pn d':=by
 intro he;obtain ⟨h1,h2⟩:=JL hi hb he;rw [h2];exact h h1
theorem Nk {i:It}{d:D}:ms L (dst L i d).2<=ms L d:=by
 have ref:ms L (eU L false d)<=ms L d:=by
  unfold eU ms;simp only [Rp,R7]
  by_cases he:d.e=0
  ·simp only [he,SY];split <;> simp
  ·simp [he]
 cases i with
 |fl x=>
  by_cases hx:∃m,x=.mt m
  ·obtain ⟨m,rfl⟩:=hx;simp only [dst];cases cJ (cP L d) m with
   |ref=>exact ref
   |ex r=>exact gt _
   |op nd r=>exact Nat.le_of_eq vq
  ·have e:dst L (.fl x) d=([],eU L (qn L d (fun t=>x.takes t)) d):=by
    cases x with
    |mt m=>exact absurd ⟨m,rfl⟩ hx
    |_=>rfl
   rw [e];exact (EM rfl).1
 |lv n=>exact Nat.le_of_eq OG
 |_=>exact gt _
theorem lE {K K':List It}{d d':D}(h:lY L K d K' d'):ms L d'<=ms L d:=by
 induction h with
 |refl=>exact gt _
 |step _ ih=>exact Q0 ih Nk
theorem bK {i:It}{d d':D}(h:Ib L i d d'):ms L d'<=ms L d:=lE (h [])
theorem MM {L:List Tv}{x:Fl}{d:D}:ms L (jb L x d)<=ms L d/\(0<ms L d->ms L (jb L x d)<ms L d):=EM rfl
theorem OL {d:D}{k:Int}:Ib L (.fl (.wd k ts)) d (jb L (.wd k ts) d):=iK aD
theorem Qv {d:D}:Ib L (.fl .nm) d (jb L .nm d):=iK cU
theorem Qw {d:D}:Ib L (.fl .cs) d (jb L .cs d):=iK EG
theorem aA {d:D}{x:Fl}{r:List Fl}(h:qn L d (fun t=>Fl.takes t x)=true):bz (cP L d) (.row (x :: r))=some (.all (x :: r)):=by
 unfold qn at h;cases hn:cP L d with
 |none=>rw [hn] at h;cases h
 |some t=>
  rw [hn] at h;simp only [Option.elim] at h;simp [bz,Pk.pick,h]
theorem aM {d:D}{x:Fl}{r:List Fl}(h:qn L d (fun t=>Fl.takes t x)=false):bz (cP L d) (.row (x :: r))=none:=by
 unfold qn at h;cases hn:cP L d with
 |none=>rfl
 |some t=>
  rw [hn] at h;simp only [Option.elim] at h;simp [bz,Pk.pick,h]
structure Lp (L:List Tv) (p:Pk) (d0 d:D):Prop where
 go:∀d2,Ib L (.again p) d d2->Ib L (.again p) d0 d2
 le:ms L d<=ms L d0
 pn:Pn d0->Pn d
theorem Lp.refl {L:List Tv}{p:Pk}{d:D}:Lp L p d d:=⟨fun _ h=>h,gt _,fun h=>h⟩
theorem Lp.step {L:List Tv}{p:Pk}{d0 d d1:D}{i:It}(h:Lp L p d0 d) (hp:bz (cP L d) p=some i) (hi:Ib L i d d1):Lp L p d0 d1:=
 ⟨fun d2 h2=>h.go d2 (bp hp hi h2),Q0 (bK hi) h.le,fun hn=>Ox (h.pn hn) (lT hp) hi⟩
theorem Lp.fin {p:Pk}{d0 d:D}(h:Lp L p d0 d) (hp:bz (cP L d) p=none):Ib L (.again p) d0 d:=h.go d (rf hp)
def nu:List Ev->List (Int × Nat) × Nat->List (Int × Nat) × Nat
 |[],x=>x
 |e :: o,(p,s)=>if e.k=1 then nu o (p++[(e.n,s+1)],s+1) else if e.k=3 then nu o (p.dropLast,s) else nu o (p,s)
theorem nt:∀(a b:List Ev) (x:List (Int × Nat) × Nat),nu (a++b) x=nu b (nu a x)
 |[],b,x=>rfl
 |e :: a,b,(p,s)=>by
  simp only [RA,nu]
  split
  ·exact nt a b _
  ·split
   ·exact nt a b _
   ·exact nt a b _
def lF (d:D) (o:List Ev):D:={ d with p:=(nu o (d.p,d.s)).1,s:=(nu o (d.p,d.s)).2,v:=d.v++o }
theorem iA (d:D):lF d []=d:=by simp [lF,nu]
theorem Ea (d:D) (a b:List Ev):lF (lF d a) b=lF d (a++b):=by simp [lF,nt]
def bad (k:Dk) (t:Tv):Prop:=(t.k == k.kd)=false/\(k=.detail->(t.is [91] || t.is [46] || t.is [40])=true)
def OA (ts:List ByteArray):Bool:=ts.all (fun s=>!(s.toList == [91] || s.toList == [46] || s.toList == [40]))
def blk (k:Dk):It->Bool
 |.fl (.wd q ts)=>match k with
  |.declaration=>q == 2
  |.bracket=>q == 6
  |.detail=>q == 6 || OA ts
 |_=>false
def Pv (k:Dk):It->Bool
 |.lv _=>match k with|.detail=>true|_=>false
 |.once (.row (.wd q ts :: _))=>match k with
  |.declaration=>false
  |.bracket=>q == 6
  |.detail=>q == 6 || OA ts
 |.again (.row (.wd q ts :: _))=>match k with
  |.detail=>q == 6 || OA ts
  |_=>false
 |.once (.fn _)=>match k with|.detail=>true|_=>false
 |.again (.fn _)=>match k with|.detail=>true|_=>false
 |_=>false
def wV (k:Dk):List It->Bool
 |[]=>true
 |i :: K=>blk k i || (Pv k i && wV k K)
def j8 (L:List Tv) (K:List It) (d:D):Prop:=∃K' d',lY L K d K' d'/\d'.i=d.i/\(d'.e=120\/(K'=[]/\d'.e=0))
theorem j8.step {L:List Tv}{i:It}{K:List It}{d:D}(h:j8 L ((dst L i d).1++K) (dst L i d).2) (hi:(dst L i d).2.i=d.i):j8 L (i :: K) d:=by
 obtain ⟨K',d',h1,h2,h3⟩:=h;exact ⟨K',d',.step h1,h2.trans hi,h3⟩
theorem eM {d:D}(h:cP L d=some t):d.e=0/\L[d.i]?=some t/\d.i<L.length:=by
 unfold cP at h
 split at h
 ·rename_i he
  exact ⟨he,h,(Q7.1 h).1⟩
 ·cases h
theorem sf {L:List Tv}{K:List It}{d:D}{t:Tv}(hn:cP L d=some t) {x:Fl}(hx:∀m,x≠.mt m) (ht:x.takes t=false):j8 L (.fl x :: K) d:=by
 obtain ⟨he,_,hi⟩:=eM hn;have hq:qn L d (fun t=>x.takes t)=false:=by unfold qn;rw [hn];exact ht
 refine ⟨K,_,iK hx K,?_,.inl ?_⟩
 ·rw [hq];simp [eU,he,hi]
 ·rw [hq];simp [eU,he,hi]
theorem MW (h:OA ts=true) (hb:(t.is [91] || t.is [46] || t.is [40])=true):k9 ts t.t=false:=by
 refine Ul.2 (fun s hs=>?_);have h1:=TY.1 h s hs;simp only [RC];intro e;subst e;unfold Tv.is at hb;rw [hb] at h1;cases h1
theorem yw {k:Dk}{q:Int}(hb:bad k t) (h:match k with|.declaration=>q == 2|.bracket=>q == 6|.detail=>q == 6 || OA ts):Fl.takes t (.wd q ts)=false:=by
 obtain ⟨h1,h2⟩:=hb;simp only [Fl.takes];cases k with
 |declaration=>
  simp only [R5] at h;subst h;simp only [Dk.kd] at h1;rw [h1];rfl
 |bracket=>
  simp only [R5] at h;subst h;simp only [Dk.kd] at h1;rw [h1];rfl
 |detail=>
  simp only [Ri,R5] at h
  rcases h with rfl|h
  ·simp only [Dk.kd] at h1;rw [h1];rfl
  ·rw [MW h (h2 rfl),S4]
theorem rV {k:Dk}(hb:bad k t) {L:List Tv}:∀(K:List It) (d:D),wV k K=true->cP L d=some t->j8 L K d
 |[],d,_,hn=>⟨[],d,.refl,rfl,.inr ⟨rfl,(eM hn).1⟩⟩
 |i :: K,d,h,hn=>by
  have thru:(dst L i d).1=[]->cP L (dst L i d).2=some t->(dst L i d).2.i=d.i->wV k K=true->j8 L (i :: K) d:=fun e1 e2 e3 e4=>by
   refine j8.step ?_ e3;rw [e1];exact rV hb K _ e4 e2
  simp only [wV,Ri,Q1] at h
  rcases h with h|⟨h,hK⟩
  ·cases i with
   |fl x=>
    cases x with
    |wd q ts=>exact sf hn aD (yw hb (by cases k <;> exact h))
    |_=>cases h
   |_=>cases h
  ·cases i with
   |fl x=>cases h
   |lv n=>
    refine thru rfl ?_ ?_ hK
    ·simp only [dst,mT,(eM hn).1,SY]
     simpa [cP,(eM hn).1] using hn
    ·simp only [dst,mT,(eM hn).1,SY]
   |once p=>
    have hp:bz (cP L d) p=none:=by
     rw [hn];cases p with
     |fn q=>
      cases k with
      |detail=>
       have h2:=hb.2 rfl;simp only [bz];cases q with
       |declaration=>
        split
        ·have hv:t.is [118,97,114]=false/\t.is [99,111,110,115,116]=false/\t.is [112,114,111,99]=false:=by
          unfold Tv.is at h2 ⊢;simp only [Ri,R5] at h2
          rcases h2 with (e|e)|e <;> rw [e] <;> decide
         simp [Dk.pick,hv.1,hv.2.1,hv.2.2]
        ·rfl
       |bracket=>rw [Eq (by rw [show Dk.bracket.kd=Dk.detail.kd from rfl,hb.1];decide)]
       |detail=>rw [Eq (by rw [hb.1];decide)]
      |_=>cases h
     |row r=>
      cases r with
      |nil=>rfl
      |cons x r=>
       cases x with
       |wd q ts=>
        have:Fl.takes t (.wd q ts)=false:=yw hb (by
         cases k with
         |declaration=>cases h
         |bracket=>exact h
         |detail=>exact h)
        simp [bz,Pk.pick,this]
       |_=>cases h
     |ex m=>cases h
    refine thru ?_ ?_ rfl hK
    ·simp only [dst,hp];rfl
    ·exact hn
   |again p=>
    have hp:bz (cP L d) p=none:=by
     rw [hn];cases p with
     |fn q=>
      cases k with
      |detail=>
       have h2:=hb.2 rfl;simp only [bz];cases q with
       |declaration=>
        split
        ·have hv:t.is [118,97,114]=false/\t.is [99,111,110,115,116]=false/\t.is [112,114,111,99]=false:=by
          unfold Tv.is at h2 ⊢;simp only [Ri,R5] at h2
          rcases h2 with (e|e)|e <;> rw [e] <;> decide
         simp [Dk.pick,hv.1,hv.2.1,hv.2.2]
        ·rfl
       |bracket=>rw [Eq (by rw [show Dk.bracket.kd=Dk.detail.kd from rfl,hb.1];decide)]
       |detail=>rw [Eq (by rw [hb.1];decide)]
      |_=>cases h
     |row r=>
      cases r with
      |nil=>rfl
      |cons x r=>
       cases x with
       |wd q ts=>
        have:Fl.takes t (.wd q ts)=false:=yw hb (by
         cases k with
         |detail=>exact h
         |_=>cases h)
        simp [bz,Pk.pick,this]
       |_=>cases h
     |ex m=>cases h
    refine thru ?_ ?_ rfl hK
    ·simp only [dst,hp];rfl
    ·exact hn
   |all r=>cases h
def Oe:Fl->Bool
 |.mt _=>false
 |_=>true
def Hn:It->Bool
 |.fl x=>Oe x
 |_=>false
def K0:List Fl->Bool
 |[]=>true
 |x :: r=>K0 r && (Oe x || (match r with|[]=>true|y :: _=>blk .detail (.fl y)))
def OK:It->Bool
 |.all r=>K0 r
 |.once (.row r)=>K0 r
 |.once _=>true
 |.again (.row r)=>K0 r && Pv .detail (.again (.row r))
 |.again (.fn _)=>true
 |.again (.ex _)=>false
 |_=>true
def OW:It->Option Dk
 |.once (.fn k)=>some k
 |.again (.fn k)=>some k
 |_=>none
def nw:List It->Bool
 |[]=>true
 |i :: K=>nw K && (OK i && ((Hn i || wV .detail K) && (match OW i with|some k=>wV k K|none=>true)))
def Ol (k:Dk):List It->Bool
 |[]=>match k with|.detail=>true|_=>false
 |i :: K=>blk k i || (Pv k i && Ol k K)
def OF:List It->Bool
 |[]=>true
 |i :: K=>OF K && (OK i && ((Hn i || Ol .detail K) && (match OW i with|some k=>Ol k K|none=>true)))
theorem rU {k:Dk}{K:List It}(hK:wV .detail K=true):∀(r:List It),Ol k r=true->wV k (r++K)=true
 |[],h=>by cases k <;> first|exact hK|cases h
 |i :: r,h=>by
  simp only [Ol,Ri,Q1] at h;simp only [RA,wV,Ri,Q1];exact h.imp id (fun h=>⟨h.1,rU hK r h.2⟩)
theorem xM {K:List It}(hn:nw K=true) (hK:wV .detail K=true):∀(r:List It),OF r=true->nw (r++K)=true
 |[],_=>hn
 |i :: r,h=>by
  simp only [OF,Q1,Ri] at h;simp only [RA,nw,Q1,Ri];refine ⟨xM hn hK r h.1,h.2.1,h.2.2.1.imp id (rU hK r),?_⟩;have h3:=h.2.2.2;cases hf:OW i with
  |none=>rfl
  |some k=>rw [hf] at h3;exact rU hK r h3
def Gw.nx:Gw->Bool
 |.op nd r=>OF (r++[.lv nd])
 |.ex r=>OF r
 |.ref=>true
theorem xa (s:ByteArray):(cf s).nx=true:=by
 unfold cf
 repeat' split
 all_goals kernel_rfl
theorem FR (o:Option Tv) (m:M):(cJ o m).nx=true:=by
 cases m with
 |kind=>
  simp only [cJ]
  by_cases h1:o.elim false (wk 2 ⟨#[97,114,114,97,121]⟩)=true
  ·rw [IO h1];kernel_rfl
  ·rw [Eq h1]
   by_cases h2:o.elim false (wk 2 ⟨#[114,101,99,111,114,100]⟩)=true
   ·rw [IO h2];kernel_rfl
   ·rw [Eq h2];kernel_rfl
 |statement=>
  cases o with
  |none=>rfl
  |some t=>
   simp only [cJ]
   by_cases h1:(t.k == 1)=true
   ·rw [IO h1];kernel_rfl
   ·rw [Eq h1]
    by_cases h2:(t.k == 2)=true
    ·rw [IO h2];exact xa t.t
    ·rw [Eq h2];rfl
 |factor=>
  cases o with
  |none=>rfl
  |some t=>
   simp only [cJ,M.row]
   by_cases h1:(cG t == 25)=true
   ·rw [IO h1];kernel_rfl
   rw [Eq h1]
   by_cases h1:(cG t == 26)=true
   ·rw [IO h1];kernel_rfl
   rw [Eq h1]
   by_cases h1:(cG t == 27)=true
   ·rw [IO h1];kernel_rfl
   rw [Eq h1]
   by_cases h1:(cG t == 32)=true
   ·rw [IO h1];kernel_rfl
   rw [Eq h1]
   by_cases h1:(cG t == 28)=true
   ·rw [IO h1];kernel_rfl
   rw [Eq h1];rfl
 |_=>simp only [cJ,M.row];kernel_rfl
theorem DW {K:List It}(hn:nw K=true) (hK:wV .detail K=true):∀(r:List Fl),K0 r=true->nw (r.map It.fl++K)=true
 |[],_=>hn
 |x :: r,h=>by
  simp only [K0,Q1,Ri] at h;simp only [Sc,RA,nw,Q1,Ri];refine ⟨DW hn hK r h.1,rfl,h.2.imp id (fun h2=>?_),rfl⟩;cases r with
  |nil=>exact hK
  |cons y r=>
   simp only [Sc,RA,wV,Ri];exact .inl h2
theorem ny {i:It}{K:List It}(h:nw (i :: K)=true):nw K=true/\OK i=true/\(Hn i=false->wV .detail K=true)/\(∀k,OW i=some k->wV k K=true):=by
 simp only [nw,Q1,Ri] at h;refine ⟨h.1,h.2.1,fun e=>h.2.2.1.resolve_left (by rw [e];decide),fun k e=>?_⟩;have:=h.2.2.2;rw [e] at this;exact this
theorem rq {p:Pk}{j:It}(h:bz o p=some j) (hp:∀r,p=.row r->K0 r=true):OK j=true/\OW j=none/\Hn j=false:=by
 cases o with
 |none=>cases h
 |some t=>
  cases p with
  |fn d=>
   simp only [bz] at h
   split at h
   ·simp only [Rv] at h;obtain ⟨m,_,rfl⟩:=h;exact ⟨rfl,rfl,rfl⟩
   ·cases h
  |row r=>
   simp only [bz,Pk.pick] at h
   split at h
   ·cases h;exact ⟨hp r rfl,rfl,rfl⟩
   ·cases h
  |ex m=>
   simp only [bz,Pk.pick] at h
   split at h
   ·cases h
   ·cases h;exact ⟨rfl,rfl,rfl⟩
theorem Nj {L:List Tv}{i:It}{K:List It}{d:D}(h:nw (i :: K)=true):nw ((dst L i d).1++K)=true:=by
 obtain ⟨h1,h2,h3,h4⟩:=ny h;cases i with
 |fl x=>
  by_cases hx:∃m,x=.mt m
  ·obtain ⟨m,rfl⟩:=hx;have hr:=FR (cP L d) m;simp only [dst];cases hd:cJ (cP L d) m with
   |ref=>exact h1
   |ex r=>rw [hd] at hr;exact xM h1 (h3 rfl) r hr
   |op nd r=>rw [hd] at hr;exact xM h1 (h3 rfl) _ hr
  ·have e:dst L (.fl x) d=([],eU L (qn L d (fun t=>x.takes t)) d):=by
    cases x with
    |mt m=>exact absurd ⟨m,rfl⟩ hx
    |_=>rfl
   rw [e];exact h1
 |lv n=>exact h1
 |all r=>exact DW h1 (h3 rfl) r h2
 |once p=>
  simp only [dst];cases hp:bz (cP L d) p with
  |none=>exact h1
  |some j=>
   obtain ⟨a,b,c⟩:=rq hp (fun r e=>by subst e;exact h2);show nw (j :: K)=true;simp only [nw,Q1,Ri,a,b,h1,h3 rfl,and_self,or_true]
 |again p=>
  simp only [dst];cases hp:bz (cP L d) p with
  |none=>exact h1
  |some j=>
   have hr:(∀r,p=.row r->K0 r=true)/\Pv .detail (.again p)=true:=by
    cases p with
    |fn k=>exact ⟨(fun r e=>by cases e),rfl⟩
    |row r=>
     simp only [OK,Q1] at h2;exact ⟨(fun r' e=>by cases e;exact h2.1),h2.2⟩
    |ex m=>cases h2
   obtain ⟨a,b,c⟩:=rq hp hr.1;show nw (j :: .again p :: K)=true
   have hs:wV .detail (.again p :: K)=true:=by
    simp only [wV,Ri,Q1];exact .inr ⟨hr.2,h3 rfl⟩
   rw [nw];simp only [Q1,Ri,a,b,h,hs,and_self,or_true]
theorem Jj:nw (cd++[.lv 1])=true:=by kernel_rfl
end Go.Proofs.YtnljjdhodelhdaaGreatDoor
