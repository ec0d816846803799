import Derived.Test.YthfjlkfeeglfmaaGreatDoorM01
set_option linter.all false
namespace Go.Proofs.YthfjlkfeeglfmaaGreatDoor
open Go.RowKit
section
variable {L:List Tv}{t:Tv}{n:Int}{ts:List ByteArray}{o:Option Tv}
inductive M|block|variables|constants|procedure|params|param|typed|kind|member|body|statement|expr|rel|sum|term|factor|object|index|selection|args|list
deriving DecidableEq
inductive Dk|declaration|bracket|detail
deriving DecidableEq
inductive Fl|wd (k:Int) (ts:List ByteArray)|nm|cs|mt (m:M)
inductive Pk|fn (d:Dk)|row (r:List Fl)|ex (m:M)
inductive It|fl (x:Fl)|lv (n:Int)|once (p:Pk)|again (p:Pk)|all (r:List Fl)
def Bv {a b:ByteArray}(h:a.toList=b.toList):a=b:=by
 rw[UU,UU]at h;have:=TJ.1 h;cases a;cases b;simp_all
def Ii (a b:ByteArray):(a.toList==b.toList)=decide (a=b):=by
 by_cases e:a=b
 ·subst e;simp
 ·have:¬a.toList=b.toList:=λh=>e (Bv h)
  simp[e,this]
def ll (l:List ByteArray) (s:ByteArray):Bool:=l.any (λx=>decide (s=x))
def Tv.is (t:Tv) (l:List UInt8):Bool:=t.t.toList==l
def Fl.takes (t:Tv):Fl->Bool
 |.wd k ts=>t.k==k&&ll ts t.t
 |.nm=>t.k==1
 |.cs=>t.k==3||t.k==4||t.k==5
 |.mt _=>false
def ci (t:Tv):Int:=
 if t.k==6&&t.is [45]then 25 else if t.k==2&&t.is [110,111,116]then 26 else if t.k==6&&t.is [40]then 27
 else if t.k==3||t.k==4||t.k==5 then 32 else if t.k==1 then 28 else 0
def Dk.pick (t:Tv):Dk->Option M
 |.declaration=>if t.is [118,97,114]then some .variables else if t.is [99,111,110,115,116]then some .constants else if t.is [112,114,111,99]then some .procedure else none
 |.bracket=>if t.is [40]then some .params else none
 |.detail=>if t.is [91]then some .index else if t.is [46]then some .selection else if t.is [40]then some .args else none
def Pk.pick (t:Tv):Pk->Option It
 |.fn d=>(d.pick t).map (λm=>.fl (.mt m))
 |.row r=>if(r.head?.elim false (λx=>x.takes t))then some (.all r)else none
 |.ex m=>if ci t==0 then none else some (.fl (.mt m))
def IJ (p:Pk):Option It->List It
 |none=>[]
 |some i=>[i,.again p]
inductive Gw|ref|ex (r:List It)|op (n:Int) (r:List It)
def co (s:ByteArray):Gw:=
 if s.toList==[115,107,105,112]then .op 13 [.fl (.wd 2 [s])]
 else if s.toList==[105,102]then .op 15 [.fl (.wd 2 [s]),.fl (.mt .expr),.fl (.wd 2 [⟨#[116,104,101,110]⟩]),.fl (.mt .body),.again (.row [.wd 2 [⟨#[101,108,105,102]⟩],.mt .expr,.wd 2 [⟨#[116,104,101,110]⟩],.mt .body]),.once (.row [.wd 2 [⟨#[101,108,115,101]⟩],.mt .body]),.fl (.wd 2 [⟨#[101,110,100]⟩])]
 else if s.toList==[119,104,105,108,101]then .op 16 [.fl (.wd 2 [s]),.fl (.mt .expr),.fl (.wd 2 [⟨#[100,111]⟩]),.fl (.mt .body),.fl (.wd 2 [⟨#[101,110,100]⟩])]
 else if s.toList==[102,111,114]then .op 17 [.fl (.wd 2 [s]),.fl (.nm),.fl (.wd 6 [⟨#[58,61]⟩]),.fl (.mt .expr),.fl (.wd 2 [⟨#[116,111]⟩]),.fl (.mt .expr),.fl (.wd 2 [⟨#[100,111]⟩]),.fl (.mt .body),.fl (.wd 2 [⟨#[101,110,100]⟩])]
 else if s.toList==[114,101,112,101,97,116]then .op 18 [.fl (.wd 2 [s]),.fl (.mt .body),.fl (.wd 2 [⟨#[117,110,116,105,108]⟩]),.fl (.mt .expr)]
 else if s.toList==[114,101,116,117,114,110]then .op 19 [.fl (.wd 2 [s]),.once (.ex .expr)]
 else if s.toList==[98,101,103,105,110]then .op 20 [.fl (.wd 2 [s]),.fl (.mt .body),.fl (.wd 2 [⟨#[101,110,100]⟩])]
 else .ref
def M.row (t:Tv):M->Gw
 |.block=>.op 2 [.again (.fn .declaration),.fl (.wd 2 [⟨#[98,101,103,105,110]⟩]),.fl (.mt .body),.fl (.wd 2 [⟨#[101,110,100]⟩])]
 |.variables=>.op 3 [.fl (.wd 2 [⟨#[118,97,114]⟩]),.fl (.mt .typed),.fl (.wd 6 [⟨#[59]⟩])]
 |.constants=>.op 4 [.fl (.wd 2 [⟨#[99,111,110,115,116]⟩]),.fl (.nm),.fl (.wd 6 [⟨#[61]⟩]),.fl (.mt .expr),.fl (.wd 6 [⟨#[59]⟩])]
 |.params=>.op 6 [.fl (.wd 6 [⟨#[40]⟩]),.fl (.mt .param),.again (.row [.wd 6 [⟨#[59]⟩],.mt .param]),.fl (.wd 6 [⟨#[41]⟩])]
 |.param=>.op 7 [.fl (.mt .typed)]
 |.typed=>.ex [.fl (.nm),.again (.row [.wd 6 [⟨#[44]⟩],.nm]),.fl (.wd 6 [⟨#[58]⟩]),.fl (.mt .kind)]
 |.member=>.op 11 [.fl (.mt .typed)]
 |.body=>.op 12 [.fl (.mt .statement),.again (.row [.wd 6 [⟨#[59]⟩],.mt .statement])]
 |.expr=>.op 21 [.fl (.mt .rel),.again (.row [.wd 2 [⟨#[97,110,100]⟩,⟨#[111,114]⟩],.mt .rel])]
 |.rel=>.op 22 [.fl (.mt .sum),.once (.row [.wd 6 [⟨#[61]⟩,⟨#[35]⟩,⟨#[60]⟩,⟨#[60,61]⟩,⟨#[62]⟩,⟨#[62,61]⟩],.mt .sum])]
 |.sum=>.op 23 [.fl (.mt .term),.again (.row [.wd 6 [⟨#[43]⟩,⟨#[45]⟩],.mt .term])]
 |.term=>.op 24 [.fl (.mt .factor),.again (.row [.wd 6 [⟨#[42]⟩,⟨#[47]⟩,⟨#[37]⟩],.mt .factor])]
 |.object=>.op 28 [.fl (.nm),.again (.fn .detail)]
 |.index=>.op 29 [.fl (.wd 6 [⟨#[91]⟩]),.fl (.mt .list),.fl (.wd 6 [⟨#[93]⟩])]
 |.selection=>.op 30 [.fl (.wd 6 [⟨#[46]⟩]),.fl (.nm)]
 |.args=>.op 31 [.fl (.wd 6 [⟨#[40]⟩]),.once (.ex .list),.fl (.wd 6 [⟨#[41]⟩])]
 |.list=>.ex [.fl (.mt .expr),.again (.row [.wd 6 [⟨#[44]⟩],.mt .expr])]
 |.procedure=>.op 5 [.fl (.wd 2 [⟨#[112,114,111,99]⟩]),.fl (.nm),.once (.fn .bracket),.once (.row [.wd 6 [⟨#[58]⟩],.mt .kind]),.fl (.wd 6 [⟨#[59]⟩]),.fl (.mt .block),.fl (.wd 6 [⟨#[59]⟩])]
 |.kind=>if t.k==1 then .op 8 [.fl .nm]else if t.is [97,114,114,97,121]then .op 9 [.fl (.wd 2 [⟨#[97,114,114,97,121]⟩]),.fl (.wd 6 [⟨#[91]⟩]),.fl (.mt .expr),.fl (.wd 6 [⟨#[46,46]⟩]),.fl (.mt .expr),.fl (.wd 6 [⟨#[93]⟩]),.fl (.wd 2 [⟨#[111,102]⟩]),.fl (.mt .kind)]else if t.is [114,101,99,111,114,100]then .op 10 [.fl (.wd 2 [⟨#[114,101,99,111,114,100]⟩]),.fl (.mt .member),.again (.row [.wd 6 [⟨#[59]⟩],.mt .member]),.fl (.wd 2 [⟨#[101,110,100]⟩])]else .ref
 |.statement=>if t.k==1 then .op 14 [.fl (.mt .object),.once (.row [.wd 6 [⟨#[58,61]⟩],.mt .expr])]else co t.t
 |.factor=>if ci t==25 then .op 25 [.fl (.wd 6 [⟨#[45]⟩]),.fl (.mt .factor)]else if ci t==26 then .op 26 [.fl (.wd 2 [⟨#[110,111,116]⟩]),.fl (.mt .factor)]else if ci t==27 then .op 27 [.fl (.wd 6 [⟨#[40]⟩]),.fl (.mt .expr),.fl (.wd 6 [⟨#[41]⟩])]else if ci t==32 then .op 32 [.fl (.cs)]else if ci t==28 then .ex [.fl (.mt .object)]else .ref
def cd:List It:=[.fl (.wd 2 [⟨#[112,114,111,103,114,97,109]⟩]),.fl (.nm),.fl (.wd 6 [⟨#[59]⟩]),.fl (.mt .block),.fl (.wd 6 [⟨#[46]⟩])]
inductive Sr|tk|ref|go (d:Int) (o:List Ev) (r:List It)
def Gw.sr:Gw->Sr
 |.ref=>.ref
 |.ex r=>.go 0 [] r
 |.op nd r=>.go 1 [⟨1,nd,av⟩] (r++[.lv nd])
def Fl.step (t:Tv):Fl->Sr
 |.mt m=>(M.row t m).sr
 |x=>if x.takes t then .tk else .ref
def It.step (t:Tv):It->Sr
 |.fl x=>x.step t
 |.lv n=>.go (-1) [⟨3,n,av⟩] []
 |.once p=>.go 0 [] (Pk.pick t p).toList
 |.again p=>.go 0 [] (IJ p (Pk.pick t p))
 |.all r=>.go 0 [] (r.map It.fl)
def L6 (r:List Fl):Prop:=(∃k ts rest,r=Fl.wd k ts :: rest)/\r.length<=8
def Pk.wf:Pk->Prop
 |.row r=>L6 r
 |_=>True
def It.wf:It->Prop
 |.once p=>p.wf
 |.again p=>p.wf
 |.all r=>L6 r
 |_=>True
def li (K:List It):Prop:=∀i∈K,i.wf
def bV:List It->List Int
 |[]=>[]
 |.lv n :: K=>n :: bV K
 |_ :: K=>bV K
def bH (a b:List It):bV (a++b)=bV a++bV b:=by
 induction a with
 |nil=>rfl
 |cons i r ih=>cases i<;>simp[bV,ih]
def yz (r:List Fl):bV (r.map It.fl)=[]:=by
 induction r with
 |nil=>rfl
 |cons x r ih=>simp[bV,ih]
def MK (r:List Fl):li (r.map It.fl):=by
 intro i u;obtain⟨x,_,rfl⟩:=TY.1 u
 trivial
def iU {a b:List It}(u:li a) (G:li b):li (a++b):=λi H=>(Ss.1 H).elim (u i) (G i)
def gN:li []:=λ_ h=>by cases h
def kb {i:It}{K:List It}(G:i.wf) (u:li K):li (i :: K):=λj H=>(Sm.1 H).elim (λe=>e ▸ G) (u j)
def Gw.ok:Gw->Prop
 |.ref=>True
 |.ex r=>li r/\r.length<=10/\bV r=[]
 |.op nd r=>li r/\r.length<=10/\bV r=[]/\2<=nd/\nd<=32
def oh (s:ByteArray):(co s).ok:=by
 unfold co
 repeat' split
 all_goals simp[Gw.ok,li,It.wf,Pk.wf,L6,bV]
def jS (t:Tv) (m:M):(M.row t m).ok:=by
 cases m<;>simp only[M.row]
 case statement=>
  split
  ·simp[Gw.ok,li,It.wf,Pk.wf,L6,bV]
  ·exact oh _
 all_goals(repeat' split)
 all_goals simp[Gw.ok,li,It.wf,Pk.wf,L6,bV]
def nz {p:Pk}(u:p.wf) {i:It}(h:Pk.pick t p=some i):i.wf/\bV [i]=[]:=by
 cases p with
 |fn d=>
  simp only[Pk.pick,SX]at h;obtain⟨m,_,rfl⟩:=h;exact⟨trivial,rfl⟩
 |row r=>
  simp only[Pk.pick]at h
  split at h
  ·cases h;exact⟨u,rfl⟩
  ·cases h
 |ex m=>
  simp only[Pk.pick]at h
  split at h
  ·cases h
  ·cases h;exact⟨trivial,rfl⟩
def iX {t:Tv}{i:It}{d:Int}{o:List Ev}{r K:List It}(h:It.step t i=.go d o r) (I:i.wf) :
  li r/\r.length<=11/\o.length<=1/\((bV (r++K)).length:Int)=(bV (i :: K)).length+d:=by
 cases i with
 |fl x=>
  have J:∃m,x=.mt m:=by
   cases x with
   |mt m=>exact⟨m,rfl⟩
   |_=>simp only[It.step,Fl.step]at h;split at h<;>cases h
  obtain⟨m,rfl⟩:=J;have G:=jS t m;simp only[It.step,Fl.step]at h;cases u:M.row t m with
  |ref=>rw[u]at h;cases h
  |ex r'=>
   rw[u]at h G;cases h;refine⟨G.1,by have:=G.2.1;omega,by simp,?_⟩;rw[bH,G.2.2];simp[bV]
  |op nd r'=>
   rw[u]at h G;cases h;refine⟨iU G.1 (kb trivial gN),by have:=G.2.1;simp;omega,by simp,?_⟩;rw[bH,bH,G.2.2.1];simp[bV]
 |lv n=>
  cases h;refine⟨gN,by simp,by simp,?_⟩;simp[bV];omega
 |once p=>
  simp only[It.step]at h;cases H:Pk.pick t p with
  |none=>rw[H]at h;cases h;exact⟨gN,by simp,by simp,by simp[bV]⟩
  |some j=>
   rw[H]at h;cases h;have:=nz I H;refine⟨kb this.1 gN,by simp,by simp,?_⟩;show((bV ([j]++K)).length:Int)=_;rw[bH,this.2];simp[bV]
 |again p=>
  simp only[It.step]at h;cases H:Pk.pick t p with
  |none=>rw[H]at h;cases h;exact⟨gN,by simp[IJ],by simp,by simp[bV,IJ]⟩
  |some j=>
   rw[H]at h;cases h;have:=nz I H;refine⟨kb this.1 (kb I gN),by simp[IJ],by simp,?_⟩;show((bV ([j]++([.again p]++K))).length:Int)=_;rw[bH,this.2];simp[bV]
 |all r'=>
  cases h;refine⟨MK r',by have:=I.2;simp;omega,by simp,?_⟩;rw[bH,yz];simp[bV]
inductive Ro|no|yes (K:List It) (n:Int) (E:List Ev)
inductive Ru (t:Tv):Nat->List It->Int->List Ev->Ro->Prop
 |nil {n:Int} {E:List Ev}:Ru t 0 [] n E .no
 |ref {i:It} {K:List It} {n:Int} {E:List Ev}:It.step t i=.ref->Ru t 0 (i :: K) n E .no
 |tk {i:It} {K:List It} {n:Int} {E:List Ev}:It.step t i=.tk->Ru t 0 (i :: K) n E (.yes K n E)
 |go {k:Nat} {i:It} {K:List It} {n d:Int} {E o:List Ev} {r:List It} {R:Ro}:It.step t i=.go d o r->Ru t k (r++K) (n+d) (E++o) R->Ru t (k+1) (i :: K) n E R
def eZ (t:Tv) (c:Nat) (i:It):Prop:=∀K n E,∃k R,k<=c/\Ru t k (i :: K) n E R
def i8 (t:Tv) (x:Fl) (G:∀m,x≠.mt m) (c:Nat):eZ t c (.fl x):=by
 intro K n E
 have h:It.step t (.fl x)=if x.takes t then .tk else .ref:=by
  cases x with
  |mt m=>exact absurd rfl (G m)
  |_=>rfl
 by_cases u:x.takes t=true
 ·rw[Or u]at h;exact⟨0,_,RU _,.tk h⟩
 ·rw[Eq u]at h;exact⟨0,_,RU _,.ref h⟩
def bS {t:Tv}{i j:It}{d:Int}{o:List Ev}{r:List It}{c:Nat}(h:It.step t i=.go d o (j :: r)) (G:eZ t c j):eZ t (c+1) i:=by
 intro K n E;obtain⟨k,R,H,u⟩:=G (r++K) (n+d) (E++o);exact⟨k+1,R,by omega,.go h u⟩
def eZ.up {c c':Nat}{i:It}(h:eZ t c i) (hc:c<=c'):eZ t c' i:=by
 intro K n E;obtain⟨k,R,G,u⟩:=h K n E;exact⟨k,R,by omega,u⟩
def ED {i:It}(h:It.step t i=.ref) (c:Nat):eZ t c i:=λK n E=>⟨0,_,RU _,.ref h⟩
def aB {k:Int}:∀m,Fl.wd k ts≠.mt m:=λm h=>by cases h
def cE:∀m,Fl.nm≠.mt m:=λm h=>by cases h
def F0:∀m,Fl.cs≠.mt m:=λm h=>by cases h
def oH {t:Tv}{i:It}{d:Int}{o:List Ev}{x:Fl}{r:List It}(h:It.step t i=.go d o (.fl x :: r)) (u:∀m,x≠.mt m):eZ t 1 i:=bS h (i8 t x u 0)
def ii (t:Tv):eZ t 1 (.fl (.mt .object)):=oH rfl cE
def jR (t:Tv):eZ t 1 (.fl (.mt .typed)):=oH rfl cE
def oI {t:Tv}{m:M}{c:Nat}(R:Gw) (H:M.row t m=R) (h:R=.ref\/(∃x r,(∀m,x≠Fl.mt m)/\(R=.ex (.fl x :: r)\/∃nd,R=.op nd (.fl x :: r)))):eZ t 1 (.fl (.mt m)):=by
 have u:It.step t (.fl (.mt m))=R.sr:=by simp only[It.step,Fl.step,H]
 rcases h with rfl|⟨x,r,G,rfl|⟨nd,rfl⟩⟩
 ·exact ED u 1
 ·exact oH u G
 ·exact oH (d:=1) (o:=[⟨1,nd,av⟩]) (x:=x) (r:=r++[It.lv nd]) u G
def mw (t:Tv):eZ t 2 (.fl (.mt .factor)):=by
 by_cases h:ci t=28
 ·have H:It.step t (.fl (.mt .factor))=.go 0 [] [.fl (.mt .object)]:=by simp[It.step,Fl.step,M.row,h,Gw.sr]
  exact bS H (ii t)
 ·refine(oI (c:=0) _ rfl ?_).up (by omega);have u:(ci t==28)=false:=by simpa using h
  simp only[M.row,u,R5,SW]
  repeat' split
  all_goals first
   |exact .inl rfl
   |exact .inr ⟨_,_,aB,.inr ⟨_,rfl⟩⟩
   |exact .inr ⟨_,_,F0,.inr ⟨_,rfl⟩⟩
   | (rename_i G;simp at G)
def B8 (t:Tv):eZ t 1 (.fl (.mt .kind)):=by
 refine oI (c:=0) _ rfl ?_;simp only[M.row]
 repeat' split
 all_goals first
  |exact .inl rfl
  |exact .inr ⟨_,_,aB,.inr ⟨_,rfl⟩⟩
  |exact .inr ⟨_,_,cE,.inr ⟨_,rfl⟩⟩
def ig (t:Tv):eZ t 2 (.fl (.mt .statement)):=by
 by_cases h:(t.k==1)=true
 ·have H:It.step t (.fl (.mt .statement))=.go 1 [⟨1,14,av⟩] ([.fl (.mt .object),.once (.row [.wd 6 [⟨#[58,61]⟩],.mt .expr])]++[.lv 14]):=by simp[It.step,Fl.step,M.row,h,Gw.sr]
  exact bS (r:=[.once (.row [.wd 6 [⟨#[58,61]⟩],.mt .expr]),.lv 14]) H (ii t)
 ·refine(oI (c:=0) _ rfl ?_).up (by omega);have u:(t.k==1)=false:=by simpa using h
  simp only[M.row,u,R5,SW,co]
  repeat' split
  all_goals first
   |exact .inl rfl
   |exact .inr ⟨_,_,aB,.inr ⟨_,rfl⟩⟩
   | (rename_i G;simp at G)
def qE (t:Tv):eZ t 3 (.fl (.mt .term)):=bS rfl (mw t)
def uO (t:Tv):eZ t 4 (.fl (.mt .sum)):=bS rfl (qE t)
def uP (t:Tv):eZ t 5 (.fl (.mt .rel)):=bS rfl (uO t)
def qG (t:Tv):eZ t 6 (.fl (.mt .expr)):=bS rfl (uP t)
def dA (t:Tv) (m:M) (h:m=.variables\/m=.constants\/m=.procedure\/m=.params\/m=.index\/m=.selection\/m=.args):eZ t 1 (.fl (.mt m)):=by
 rcases h with rfl|rfl|rfl|rfl|rfl|rfl|rfl<;>exact oH rfl aB
def tI {d:Dk}{m:M}(h:d.pick t=some m):m=.variables\/m=.constants\/m=.procedure\/m=.params\/m=.index\/m=.selection\/m=.args:=by
 cases d<;>simp only[Dk.pick]at h<;>repeat' (split at h)
 all_goals first|(cases h;done)|(cases h;simp)
def xQ (t:Tv):eZ t 4 (.fl (.mt .block)):=by
 intro K n E;have H:It.step t (.fl (.mt .block))=.go 1 [⟨1,2,av⟩] (.again (.fn .declaration) :: .fl (.wd 2 [⟨#[98,101,103,105,110]⟩]) :: [.fl (.mt .body),.fl (.wd 2 [⟨#[101,110,100]⟩]),.lv 2]):=rfl;cases G:Dk.pick t .declaration with
 |none=>
  have u:It.step t (.again (.fn .declaration))=.go 0 [] []:=by simp[It.step,Pk.pick,G,IJ]
  obtain⟨k,R,J,I⟩:=i8 t (.wd 2 [⟨#[98,101,103,105,110]⟩]) aB 0 ([.fl (.mt .body),.fl (.wd 2 [⟨#[101,110,100]⟩]),.lv 2]++K) (n+1+0) (E++[⟨1,2,av⟩]++[]);exact⟨k+1+1,R,by omega,.go H (.go u I)⟩
 |some m=>
  have u:It.step t (.again (.fn .declaration))=.go 0 [] (.fl (.mt m) :: [.again (.fn .declaration)]):=by simp[It.step,Pk.pick,G,IJ]
  exact((bS H (bS u (dA t m (tI G)))).up (by omega)) K n E
def rU (t:Tv) (m:M):eZ t 8 (.fl (.mt m)):=by
 cases m with
 |block=>exact(xQ t).up (by omega)
 |variables=>exact(dA t _ (by simp)).up (by omega)
 |constants=>exact(dA t _ (by simp)).up (by omega)
 |procedure=>exact(dA t _ (by simp)).up (by omega)
 |params=>exact(dA t _ (by simp)).up (by omega)
 |param=>exact(bS rfl (jR t)).up (by omega)
 |typed=>exact(jR t).up (by omega)
 |kind=>exact(B8 t).up (by omega)
 |member=>exact(bS rfl (jR t)).up (by omega)
 |body=>exact(bS rfl (ig t)).up (by omega)
 |statement=>exact(ig t).up (by omega)
 |expr=>exact(qG t).up (by omega)
 |rel=>exact(uP t).up (by omega)
 |sum=>exact(uO t).up (by omega)
 |term=>exact(qE t).up (by omega)
 |factor=>exact(mw t).up (by omega)
 |object=>exact(ii t).up (by omega)
 |index=>exact(dA t _ (by simp)).up (by omega)
 |selection=>exact(dA t _ (by simp)).up (by omega)
 |args=>exact(dA t _ (by simp)).up (by omega)
 |list=>exact(bS rfl (qG t)).up (by omega)
def qF (t:Tv) (x:Fl):eZ t 8 (.fl x):=by
 cases x with
 |mt m=>exact rU t m
 |_=>exact i8 t _ (λm h=>by cases h) 8
def iZ {p:Pk}(u:p.wf) {i:It}(h:Pk.pick t p=some i):eZ t 9 i:=by
 cases p with
 |fn d=>
  simp only[Pk.pick,SX]at h;obtain⟨m,_,rfl⟩:=h;exact(rU t m).up (by omega)
 |row r=>
  simp only[Pk.pick]at h
  split at h
  ·cases h;obtain⟨⟨k,ts,rest,rfl⟩,_⟩:=u;exact(bS (r:=rest.map It.fl) rfl (i8 t (.wd k ts) aB 0)).up (by omega)
  ·cases h
 |ex m=>
  simp only[Pk.pick]at h
  split at h
  ·cases h
  ·cases h;exact(rU t m).up (by omega)
def L7 (t:Tv):∀(K:List It),li K->∀n E,∃k R,k<=K.length+20/\Ru t k K n E R
 |[],_,n,E=>⟨0,_,RU _,.nil⟩
 |i :: K,hw,n,E=>by
  have I:i.wf:=hw i (RZ ..);have J:li K:=λj M=>hw j (R1 _ M)
  have pop:∀d o,It.step t i=.go d o []->∃k R,k<=(i :: K).length+20/\Ru t k (i :: K) n E R:=by
   intro d o h;obtain⟨k,R,O,H⟩:=L7 t K J (n+d) (E++o);exact⟨k+1,R,by simp;omega,.go h H⟩
  have u:∀c,c<=20->eZ t c i->∃k R,k<=(i :: K).length+20/\Ru t k (i :: K) n E R:=by
   intro c hc h;obtain⟨k,R,O,H⟩:=h K n E;exact⟨k,R,by omega,H⟩
  cases i with
  |fl x=>exact u 8 (by omega) (qF t x)
  |lv nd=>exact pop _ _ rfl
  |once p=>
   cases G:Pk.pick t p with
   |none=>exact pop 0 [] (by simp[It.step,G])
   |some j=>exact u 10 (by omega) (bS (r:=[]) (by simp[It.step,G];exact⟨rfl,rfl⟩) (iZ I G))
  |again p=>
   cases G:Pk.pick t p with
   |none=>exact pop 0 [] (by simp[It.step,G,IJ])
   |some j=>exact u 10 (by omega) (bS (r:=[.again p]) (by simp[It.step,G,IJ];exact⟨rfl,rfl⟩) (iZ I G))
  |all r=>
   obtain⟨⟨k,ts,rest,rfl⟩,_⟩:=I;exact u 1 (by omega) (bS (r:=rest.map It.fl) rfl (i8 t (.wd k ts) aB 0))
structure D where
 i:Nat
 p:List (Int × Nat)
 s:Nat
 l:List (Int × Nat)
 e:Int
 v:List Ev
 N:Nat->List Ev
def cB (L:List Tv) (d:D):Option Tv:=if d.e=0 then L[d.i]? else none
def qn (L:List Tv) (d:D) (f:Tv->Bool):Bool:=(cB L d).elim false f
def dG (n:Int) (d:D):D:=if d.e=0 then { d with p:=d.p++[(n,d.s+1)],s:=d.s+1,v:=d.v++[⟨1,n,av⟩] }else d
def mY (n:Int) (d:D):D:=if d.e=0 then { d with p:=d.p.dropLast,v:=d.v++[⟨3,n,av⟩] }else d
def eu (L:List Tv) (r:Bool) (d:D):D:=
 if r then(if 1000<d.p.length then { d with e:=122 }else { d with i:=d.i+1,l:=if d.i+1=L.length then d.p else d.l,v:=d.v++⟨2,0,L[d.i]?.getD av⟩ :: d.N d.i })
 else if d.e=0 then(if d.i<L.length then { d with e:=120 }else { d with e:=121 })else d
def wk (k:Int) (s:ByteArray) (t:Tv):Bool:=t.k==k&&decide (t.t=s)
def Dk.kd:Dk->Int
 |.declaration=>2
 |_=>6
def cj (o:Option Tv):M->Gw
 |.kind=>if o.elim false (wk 2 ⟨#[97,114,114,97,121]⟩)then .op 9 [.fl (.wd 2 [⟨#[97,114,114,97,121]⟩]),.fl (.wd 6 [⟨#[91]⟩]),.fl (.mt .expr),.fl (.wd 6 [⟨#[46,46]⟩]),.fl (.mt .expr),.fl (.wd 6 [⟨#[93]⟩]),.fl (.wd 2 [⟨#[111,102]⟩]),.fl (.mt .kind)]
  else if o.elim false (wk 2 ⟨#[114,101,99,111,114,100]⟩)then .op 10 [.fl (.wd 2 [⟨#[114,101,99,111,114,100]⟩]),.fl (.mt .member),.again (.row [.wd 6 [⟨#[59]⟩],.mt .member]),.fl (.wd 2 [⟨#[101,110,100]⟩])]else .op 8 [.fl .nm]
 |.statement=>match o with
  |none=>.ref
  |some t=>if t.k==1 then .op 14 [.fl (.mt .object),.once (.row [.wd 6 [⟨#[58,61]⟩],.mt .expr])]else if t.k==2 then co t.t else .ref
 |.factor=>match o with
  |none=>.ref
  |some t=>M.row t .factor
 |m=>M.row av m
def bk (o:Option Tv) (p:Pk):Option It:=
 match o with
 |none=>none
 |some t=>match p with
  |.fn d=>if t.k==d.kd then(d.pick t).map (λm=>.fl (.mt m))else none
  |p=>Pk.pick t p
def dst (L:List Tv):It->D->List It × D
 |.fl (.mt m),d=>match cj (cB L d) m with
  |.ref=>([],eu L false d)
  |.ex r=>(r,d)
  |.op nd r=>(r++[.lv nd],dG nd d)
 |.fl x,d=>([],eu L (qn L d (λt=>x.takes t)) d)
 |.lv n,d=>([],mY n d)
 |.once p,d=>((bk (cB L d) p).toList,d)
 |.again p,d=>(IJ p (bk (cB L d) p),d)
 |.all r,d=>(r.map It.fl,d)
inductive me (L:List Tv):List It->D->List It->D->Prop
 |refl {K:List It} {d:D}:me L K d K d
 |step {i:It} {K K':List It} {d d':D}:me L ((dst L i d).1++K) (dst L i d).2 K' d'->me L (i :: K) d K' d'
def me.trans {K u G:List It}{d d1 d2:D}(h:me L K d u d1) (H:me L u d1 G d2):me L K d G d2:=by
 induction h with
 |refl=>exact H
 |step _ ih=>exact .step (ih H)
def me.det {K u:List It}{d d1 d2:D}(h:me L K d u d1) (G:me L K d [] d2):me L u d1 [] d2:=by
 induction h with
 |refl=>exact G
 |step _ ih=>
  cases G with
  |step h2=>exact ih h2
def Ib (L:List Tv) (i:It) (d d':D):Prop:=∀K,me L (i :: K) d K d'
def Rb (L:List Tv) (r:List It) (d d':D):Prop:=∀K,me L (r++K) d K d'
def oR {d:D}:Rb L [] d d:=λK=>.refl
def aA {i:It}{r:List It}{d d1 d2:D}(h:Ib L i d d1) (u:Rb L r d1 d2):Rb L (i :: r) d d2:=λK=>(h (r++K)).trans (u K)
def iC {L:List Tv}{d:D}{x:Fl}(u:∀m,x≠.mt m):Ib L (.fl x) d (eu L (qn L d (λt=>x.takes t)) d):=λK=>by
 refine .step ?_;cases x with
 |mt m=>exact absurd rfl (u m)
 |_=>exact .refl
def Mq {L:List Tv}{d:D}{n:Int}:Ib L (.lv n) d (mY n d):=λK=>.step .refl
def aO {L:List Tv}{d d':D}{m:M}{nd:Int}{r:List It}(h:cj (cB L d) m=.op nd r) (u:Rb L (r++[.lv nd]) (dG nd d) d'):Ib L (.fl (.mt m)) d d':=λK=>by
 refine .step ?_;have e:dst L (.fl (.mt m)) d=(r++[.lv nd],dG nd d):=by simp only[dst,h]
 rw[e];exact u K
def wA {L:List Tv}{d d':D}{m:M}{r:List It}(h:cj (cB L d) m=.ex r) (u:Rb L r d d'):Ib L (.fl (.mt m)) d d':=λK=>by
 refine .step ?_;have e:dst L (.fl (.mt m)) d=(r,d):=by simp only[dst,h]
 rw[e];exact u K
def sX {L:List Tv}{d:D}{m:M}(h:cj (cB L d) m=.ref):Ib L (.fl (.mt m)) d (eu L false d):=λK=>by
 refine .step ?_;have e:dst L (.fl (.mt m)) d=([],eu L false d):=by simp only[dst,h]
 rw[e];exact .refl
def aR {L:List Tv}{d d':D}{r:List Fl}(h:Rb L (r.map It.fl) d d'):Ib L (.all r) d d':=λK=>.step (h K)
def dR {d:D}{p:Pk}(h:bk (cB L d) p=none):Ib L (.once p) d d:=λK=>by
 refine .step ?_;simp only[dst,h];exact .refl
def bI {d d':D}{p:Pk}{i:It}(h:bk (cB L d) p=some i) (u:Ib L i d d'):Ib L (.once p) d d':=λK=>by
 refine .step ?_;simp only[dst,h];exact u K
def qW {d:D}{p:Pk}(h:bk (cB L d) p=none):Ib L (.again p) d d:=λK=>by
 refine .step ?_;simp only[dst,h];exact .refl
def aZ {d d1 d2:D}{p:Pk}{i:It}(h:bk (cB L d) p=some i) (u:Ib L i d d1) (G:Ib L (.again p) d1 d2):Ib L (.again p) d d2:=λK=>by
 refine .step ?_;simp only[dst,h];exact(u (.again p :: K)).trans (G K)
def ms (L:List Tv) (d:D):Nat:=if d.e=0 then L.length-d.i+1 else 0
def wb {d:D}:ms L (dG n d)=ms L d:=by unfold dG;split<;>rfl
def Po {d:D}:ms L (mY n d)=ms L d:=by unfold mY;split<;>rfl
def Ah {d:D}{f:Tv->Bool}(h:qn L d f=true):d.e=0/\d.i<L.length:=by
 unfold qn cB at h
 split at h
 ·rename_i u
  refine⟨u,?_⟩;cases hl:L[d.i]? with
  |none=>rw[hl]at h;cases h
  |some t=>exact(RY.1 hl).1
 ·cases h
def F5 {L:List Tv}{d:D}{f:Tv->Bool}{r:Bool}(h:r=qn L d f):ms L (eu L r d)<=ms L d/\(0<ms L d->ms L (eu L r d)<ms L d):=by
 cases G:r with
 |true=>
  rw[G]at h;obtain⟨u,H⟩:=Ah h.symm;unfold eu ms;simp only[TU]
  split
  ·simp[u]
  ·simp only[u,TU];omega
 |false=>
  unfold eu ms;simp only[R5,SW]
  by_cases u:d.e=0
  ·simp only[u,TU]
   split<;>simp
  ·simp[u]
def Pn (d:D):Prop:=d.e=0->d.p≠[]
def vT {d:D}(u:¬d.e=0):dG n d=d:=by unfold dG;rw[Eq u]
def xn {d:D}(u:¬d.e=0):mY n d=d:=by unfold mY;rw[Eq u]
def iW (L:List Tv) (x:Fl) (d:D):D:=eu L (qn L d (λt=>x.takes t)) d
def qv (k:Int) (s:ByteArray) (t:Tv):wk k s t=(t.k==k&&t.t.toList==s.toList):=by unfold wk;rw[Ii]
def Lg (o:Option Tv) (m:M):(cj o m).ok:=by
 cases m with
 |kind=>
  simp only[cj]
  repeat' split
  all_goals simp[Gw.ok,li,It.wf,Pk.wf,L6,bV]
 |statement=>
  cases o with
  |none=>trivial
  |some t=>
   simp only[cj]
   split
   ·simp[Gw.ok,li,It.wf,Pk.wf,L6,bV]
   ·split
    ·exact oh _
    ·trivial
 |factor=>
  cases o with
  |none=>trivial
  |some t=>exact jS t .factor
 |_=>simp only[cj];exact jS av _
def G8 {o:Option Tv}{m:M}:(∀r,cj o m=.ex r->bV r=[])/\(∀nd r,cj o m=.op nd r->bV r=[]):=by
 have h:=Lg o m;constructor
 ·intro r e;rw[e]at h;exact h.2.2
 ·intro nd r e;rw[e]at h;exact h.2.2.1
def lY {p:Pk}{i:It}(h:bk o p=some i):bV [i]=[]:=by
 cases o with
 |none=>cases h
 |some t=>
  cases p with
  |fn d=>
   simp only[bk]at h
   split at h
   ·simp only[SX]at h;obtain⟨m,_,rfl⟩:=h;rfl
   ·cases h
  |row r=>
   simp only[bk,Pk.pick]at h
   split at h
   ·cases h;rfl
   ·cases h
  |ex m=>
   simp only[bk,Pk.pick]at h
   split at h
   ·cases h
   ·cases h;rfl
def oA {b:Bool}{d:D}(h:(eu L b d).e=0):b=true/\d.e=0/\(eu L b d).p=d.p/\d.p.length<=1000:=by
 unfold eu at h ⊢;cases b with
 |true=>
  simp only[TU]at h ⊢
  split at h
  ·cases h
  ·rename_i hd
   rw[Eq hd];exact⟨trivial,h,rfl,by omega⟩
 |false=>
  simp only[R5,SW]at h
  split at h
  ·split at h<;>cases h
  ·rename_i u;exact absurd h u
def FQ {n:Int}{d:D}:(dG n d).e=d.e:=by unfold dG;split<;>rfl
def xm {d:D}:(mY n d).e=d.e:=by unfold mY;split<;>rfl
def G5 {i:It}{d:D}(h:(dst L i d).2.e=0):d.e=0/\∀(K:List It) (base q:List (Int × Nat)),d.p=base++q->q.map (·.1)=(bV (i :: K)).reverse->∃Q,(dst L i d).2.p=base++Q/\Q.map (·.1)=(bV ((dst L i d).1++K)).reverse:=by
 cases i with
 |fl x=>
  by_cases O:∃m,x=.mt m
  ·obtain⟨m,rfl⟩:=O;obtain⟨l1,l2⟩:=G8 (o:=cB L d) (m:=m);simp only[dst]at h ⊢;cases I:cj (cB L d) m with
   |ref=>
    rw[I]at h;exact absurd (oA h).1 (by decide)
   |ex r=>
    rw[I]at h;refine⟨h,λK base q G u=>⟨q,G,?_⟩⟩;rw[bH,l1 r I];exact u
   |op nd r=>
    rw[I]at h;simp only at h ⊢;have J:d.e=0:=by rw[<-FQ (n:=nd)];exact h
    refine⟨J,λK base q G u=>⟨q++[(nd,d.s+1)],?_,?_⟩⟩
    ·unfold dG;rw[Or J];simp[G]
    ·rw[bH,bH,l2 nd r I];simp only[bV,SN,u];simp
  ·have e:dst L (.fl x) d=([],eu L (qn L d (λt=>x.takes t)) d):=by
    cases x with
    |mt m=>exact absurd ⟨m,rfl⟩ O
    |_=>rfl
   rw[e]at h ⊢;obtain⟨_,J,H,_⟩:=oA h;exact⟨J,λK base q G u=>⟨q,by rw[H];exact G,u⟩⟩
 |lv n=>
  simp only[dst]at h ⊢;rw[xm]at h;refine⟨h,λK base q G u=>⟨q.dropLast,?_,?_⟩⟩
  ·unfold mY;rw[Or h]
   have M:q≠[]:=by
    intro M;rw[M]at u;simp[bV]at u
   show d.p.dropLast=_;rw[G,List.dropLast_append_of_ne_nil M]
  ·rw[List.map_dropLast,u];simp[bV]
 |once p=>
  simp only[dst]at h ⊢;refine⟨h,λK base q G u=>⟨q,G,?_⟩⟩;cases H:bk (cB L d) p with
  |none=>exact u
  |some i=>
   show _=(bV ([i]++K)).reverse;rw[bH,lY H];exact u
 |again p=>
  simp only[dst]at h ⊢;refine⟨h,λK base q G u=>⟨q,G,?_⟩⟩;cases H:bk (cB L d) p with
  |none=>exact u
  |some i=>
   show _=(bV ([i]++(.again p :: K))).reverse;rw[bH,lY H];exact u
 |all r=>
  simp only[dst]at h ⊢;refine⟨h,λK base q G u=>⟨q,G,?_⟩⟩;rw[bH,yz];exact u
def oQ {K K':List It}{d d':D}(h:me L K d K' d') (hl:d'.e=0):d.e=0/\∀(base q:List (Int × Nat)),d.p=base++q->q.map (·.1)=(bV K).reverse->∃H,d'.p=base++H/\H.map (·.1)=(bV K').reverse:=by
 induction h with
 |refl=>exact⟨hl,λbase q u G=>⟨q,u,G⟩⟩
 |step _ ih=>
  obtain⟨I,J⟩:=ih hl;obtain⟨h3,h4⟩:=G5 I;refine⟨h3,λbase q u G=>?_⟩;obtain⟨q1,e3,e4⟩:=h4 _ base q u G;exact J base q1 e3 e4
def KN {i:It}{d d':D}(H:bV [i]=[]) (h:Ib L i d d') (hl:d'.e=0):d.e=0/\d'.p=d.p:=by
 obtain⟨u,G⟩:=oQ (h []) hl;obtain⟨q,e1,e2⟩:=G d.p [] (by simp) (by rw[H];rfl);have:q=[]:=by simpa[bV]using e2
 exact⟨u,by rw[e1,this];simp⟩
def Pb {i:It}{d d':D}(h:Pn d) (J:bV [i]=[]) (H:Ib L i d d'):Pn d':=by
 intro I;obtain⟨u,G⟩:=KN J H I;rw[G];exact h u
def Of {i:It}{d:D}:ms L (dst L i d).2<=ms L d:=by
 have ref:ms L (eu L false d)<=ms L d:=by
  unfold eu ms;simp only[R5,SW]
  by_cases u:d.e=0
  ·simp only[u,TU];split<;>simp
  ·simp[u]
 cases i with
 |fl x=>
  by_cases G:∃m,x=.mt m
  ·obtain⟨m,rfl⟩:=G;simp only[dst];cases cj (cB L d) m with
   |ref=>exact ref
   |ex r=>exact ge _
   |op nd r=>exact Nat.le_of_eq wb
  ·have e:dst L (.fl x) d=([],eu L (qn L d (λt=>x.takes t)) d):=by
    cases x with
    |mt m=>exact absurd ⟨m,rfl⟩ G
    |_=>rfl
   rw[e];exact(F5 rfl).1
 |lv n=>exact Nat.le_of_eq Po
 |_=>exact ge _
def lM {K K':List It}{d d':D}(h:me L K d K' d'):ms L d'<=ms L d:=by
 induction h with
 |refl=>exact ge _
 |step _ ih=>exact PI ih Of
def bA {i:It}{d d':D}(h:Ib L i d d'):ms L d'<=ms L d:=lM (h [])
def NH {L:List Tv}{x:Fl}{d:D}:ms L (iW L x d)<=ms L d/\(0<ms L d->ms L (iW L x d)<ms L d):=F5 rfl
def Pt {d:D}{k:Int}:Ib L (.fl (.wd k ts)) d (iW L (.wd k ts) d):=iC aB
def Rj {d:D}:Ib L (.fl .nm) d (iW L .nm d):=iC cE
def Rk {d:D}:Ib L (.fl .cs) d (iW L .cs d):=iC F0
def ay {d:D}{x:Fl}{r:List Fl}(h:qn L d (λt=>Fl.takes t x)=true):bk (cB L d) (.row (x :: r))=some (.all (x :: r)):=by
 unfold qn at h;cases u:cB L d with
 |none=>rw[u]at h;cases h
 |some t=>
  rw[u]at h;simp only[Option.elim]at h;simp[bk,Pk.pick,h]
def bT {L:List Tv}{d:D}{x:Fl}{r:List Fl}(h:qn L d (λt=>Fl.takes t x)=false):bk (cB L d) (.row (x :: r))=none:=by
 unfold qn at h;cases u:cB L d with
 |none=>rfl
 |some t=>
  rw[u]at h;simp only[Option.elim]at h;simp[bk,Pk.pick,h]
structure Lp (L:List Tv) (p:Pk) (d0 d:D):Prop where
 go:∀d2,Ib L (.again p) d d2->Ib L (.again p) d0 d2
 le:ms L d<=ms L d0
 pn:Pn d0->Pn d
def Lp.refl {L:List Tv}{p:Pk}{d:D}:Lp L p d d:=⟨λ_ h=>h,ge _,λh=>h⟩
def Lp.step {L:List Tv}{p:Pk}{d0 d d1:D}{i:It}(h:Lp L p d0 d) (G:bk (cB L d) p=some i) (u:Ib L i d d1):Lp L p d0 d1:=
 ⟨λd2 H=>h.go d2 (aZ G u H),PI (bA u) h.le,λI=>Pb (h.pn I) (lY G) u⟩
def Lp.fin {p:Pk}{d0 d:D}(h:Lp L p d0 d) (u:bk (cB L d) p=none):Ib L (.again p) d0 d:=h.go d (qW u)
def nC:List Ev->List (Int × Nat) × Nat->List (Int × Nat) × Nat
 |[],x=>x
 |e :: o,(p,s)=>if e.k=1 then nC o (p++[(e.n,s+1)],s+1)else if e.k=3 then nC o (p.dropLast,s)else nC o (p,s)
def nB:∀(a b:List Ev) (x:List (Int × Nat) × Nat),nC (a++b) x=nC b (nC a x)
 |[],b,x=>rfl
 |e :: a,b,(p,s)=>by
  simp only[R7,nC]
  split
  ·exact nB a b _
  ·split
   ·exact nB a b _
   ·exact nB a b _
def lN (d:D) (o:List Ev):D:={ d with p:=(nC o (d.p,d.s)).1,s:=(nC o (d.p,d.s)).2,v:=d.v++o }
def io (d:D):lN d []=d:=by simp[lN,nC]
def Fq (d:D) (a b:List Ev):lN (lN d a) b=lN d (a++b):=by simp[lN,nB]
def bad (k:Dk) (t:Tv):Prop:=(t.k==k.kd)=false/\(k=.detail->(t.is [91]||t.is [46]||t.is [40])=true)
def Pd (ts:List ByteArray):Bool:=ts.all (λs=>!(s.toList==[91]||s.toList==[46]||s.toList==[40]))
def blk (k:Dk):It->Bool
 |.fl (.wd q ts)=>match k with
  |.declaration=>q==2
  |.bracket=>q==6
  |.detail=>q==6||Pd ts
 |_=>false
def Qj (k:Dk):It->Bool
 |.lv _=>match k with|.detail=>true|_=>false
 |.once (.row (.wd q ts :: _))=>match k with
  |.declaration=>false
  |.bracket=>q==6
  |.detail=>q==6||Pd ts
 |.again (.row (.wd q ts :: _))=>match k with
  |.detail=>q==6||Pd ts
  |_=>false
 |.once (.fn _)=>match k with|.detail=>true|_=>false
 |.again (.fn _)=>match k with|.detail=>true|_=>false
 |_=>false
def xB (k:Dk):List It->Bool
 |[]=>true
 |i :: K=>blk k i||(Qj k i&&xB k K)
def j8 (L:List Tv) (K:List It) (d:D):Prop:=∃K' d',me L K d K' d'/\d'.i=d.i/\(d'.e=120\/(K'=[]/\d'.e=0))
def j8.step {L:List Tv}{i:It}{K:List It}{d:D}(h:j8 L ((dst L i d).1++K) (dst L i d).2) (I:(dst L i d).2.i=d.i):j8 L (i :: K) d:=by
 obtain⟨K',d',u,G,H⟩:=h;exact⟨K',d',.step u,G.trans I,H⟩
def ef {d:D}(h:cB L d=some t):d.e=0/\L[d.i]?=some t/\d.i<L.length:=by
 unfold cB at h
 split at h
 ·rename_i u
  exact⟨u,h,(RY.1 h).1⟩
 ·cases h
def ss {L:List Tv}{K:List It}{d:D}{t:Tv}(H:cB L d=some t) {x:Fl}(J:∀m,x≠.mt m) (ht:x.takes t=false):j8 L (.fl x :: K) d:=by
 obtain⟨u,_,G⟩:=ef H;have I:qn L d (λt=>x.takes t)=false:=by unfold qn;rw[H];exact ht
 refine⟨K,_,iC J K,?_,.inl ?_⟩
 ·rw[I];simp[eu,u,G]
 ·rw[I];simp[eu,u,G]
def NV (h:Pd ts=true) (G:(t.is [91]||t.is [46]||t.is [40])=true):ll ts t.t=false:=by
 refine List.any_eq_false.2 (λs H=>?_);have u:=List.all_eq_true.1 h s H;simp only[So];intro e;subst e;unfold Tv.is at G;rw[G]at u;cases u
def yX {k:Dk}{q:Int}(H:bad k t) (h:match k with|.declaration=>q==2|.bracket=>q==6|.detail=>q==6||Pd ts):Fl.takes t (.wd q ts)=false:=by
 obtain⟨u,G⟩:=H;simp only[Fl.takes];cases k with
 |declaration=>
  simp only[T8]at h;subst h;simp only[Dk.kd]at u;rw[u];rfl
 |bracket=>
  simp only[T8]at h;subst h;simp only[Dk.kd]at u;rw[u];rfl
 |detail=>
  simp only[SC,T8]at h
  rcases h with rfl|h
  ·simp only[Dk.kd]at u;rw[u];rfl
  ·rw[NV h (G rfl),Bool.and_false]
def rX {k:Dk}(G:bad k t) {L:List Tv}:∀(K:List It) (d:D),xB k K=true->cB L d=some t->j8 L K d
 |[],d,_,hn=>⟨[],d,.refl,rfl,.inr ⟨rfl,(ef hn).1⟩⟩
 |i :: K,d,h,hn=>by
  have u:(dst L i d).1=[]->cB L (dst L i d).2=some t->(dst L i d).2.i=d.i->xB k K=true->j8 L (i :: K) d:=λO Q S Y=>by
   refine j8.step ?_ S;rw[O];exact rX G K _ Y Q
  simp only[xB,SC,Sf]at h
  rcases h with h|⟨h,J⟩
  ·cases i with
   |fl x=>
    cases x with
    |wd q ts=>exact ss hn aB (yX G (by cases k<;>exact h))
    |_=>cases h
   |_=>cases h
  ·cases i with
   |fl x=>cases h
   |lv n=>
    refine u rfl ?_ ?_ J
    ·simp only[dst,mY,(ef hn).1,TU]
     simpa[cB,(ef hn).1]using hn
    ·simp only[dst,mY,(ef hn).1,TU]
   |once p=>
    have M:bk (cB L d) p=none:=by
     rw[hn];cases p with
     |fn q=>
      cases k with
      |detail=>
       have H:=G.2 rfl;simp only[bk];cases q with
       |declaration=>
        split
        ·have I:t.is [118,97,114]=false/\t.is [99,111,110,115,116]=false/\t.is [112,114,111,99]=false:=by
          unfold Tv.is at H ⊢;simp only[SC,T8]at H
          rcases H with(e|e)|e<;>rw[e]<;>decide
         simp[Dk.pick,I.1,I.2.1,I.2.2]
        ·rfl
       |bracket=>rw[Eq (by rw[show Dk.bracket.kd=Dk.detail.kd from rfl,G.1];decide)]
       |detail=>rw[Eq (by rw[G.1];decide)]
      |_=>cases h
     |row r=>
      cases r with
      |nil=>rfl
      |cons x r=>
       cases x with
       |wd q ts=>
        have:Fl.takes t (.wd q ts)=false:=yX G (by
         cases k with
         |declaration=>cases h
         |bracket=>exact h
         |detail=>exact h)
        simp[bk,Pk.pick,this]
       |_=>cases h
     |ex m=>cases h
    refine u ?_ ?_ rfl J
    ·simp only[dst,M];rfl
    ·exact hn
   |again p=>
    have M:bk (cB L d) p=none:=by
     rw[hn];cases p with
     |fn q=>
      cases k with
      |detail=>
       have H:=G.2 rfl;simp only[bk];cases q with
       |declaration=>
        split
        ·have I:t.is [118,97,114]=false/\t.is [99,111,110,115,116]=false/\t.is [112,114,111,99]=false:=by
          unfold Tv.is at H ⊢;simp only[SC,T8]at H
          rcases H with(e|e)|e<;>rw[e]<;>decide
         simp[Dk.pick,I.1,I.2.1,I.2.2]
        ·rfl
       |bracket=>rw[Eq (by rw[show Dk.bracket.kd=Dk.detail.kd from rfl,G.1];decide)]
       |detail=>rw[Eq (by rw[G.1];decide)]
      |_=>cases h
     |row r=>
      cases r with
      |nil=>rfl
      |cons x r=>
       cases x with
       |wd q ts=>
        have:Fl.takes t (.wd q ts)=false:=yX G (by
         cases k with
         |detail=>exact h
         |_=>cases h)
        simp[bk,Pk.pick,this]
       |_=>cases h
     |ex m=>cases h
    refine u ?_ ?_ rfl J
    ·simp only[dst,M];rfl
    ·exact hn
   |all r=>cases h
def O0:Fl->Bool
 |.mt _=>false
 |_=>true
def Jl:It->Bool
 |.fl x=>O0 x
 |_=>false
def L9:List Fl->Bool
 |[]=>true
 |x :: r=>L9 r&&(O0 x||(match r with|[]=>true|y :: _=>blk .detail (.fl y)))
def Ps:It->Bool
 |.all r=>L9 r
 |.once (.row r)=>L9 r
 |.once _=>true
 |.again (.row r)=>L9 r&&Qj .detail (.again (.row r))
 |.again (.fn _)=>true
 |.again (.ex _)=>false
 |_=>true
def PK:It->Option Dk
 |.once (.fn k)=>some k
 |.again (.fn k)=>some k
 |_=>none
def nw:List It->Bool
 |[]=>true
 |i :: K=>nw K&&(Ps i&&((Jl i||xB .detail K)&&(match PK i with|some k=>xB k K|none=>true)))
def O5 (k:Dk):List It->Bool
 |[]=>match k with|.detail=>true|_=>false
 |i :: K=>blk k i||(Qj k i&&O5 k K)
def Pj:List It->Bool
 |[]=>true
 |i :: K=>Pj K&&(Ps i&&((Jl i||O5 .detail K)&&(match PK i with|some k=>O5 k K|none=>true)))
def rW {k:Dk}{K:List It}(u:xB .detail K=true):∀(r:List It),O5 k r=true->xB k (r++K)=true
 |[],h=>by cases k<;>first|exact u|cases h
 |i :: r,h=>by
  simp only[O5,SC,Sf]at h;simp only[R7,xB,SC,Sf];exact h.imp id (λh=>⟨h.1,rW u r h.2⟩)
def yv {K:List It}(H:nw K=true) (u:xB .detail K=true):∀(r:List It),Pj r=true->nw (r++K)=true
 |[],_=>H
 |i :: r,h=>by
  simp only[Pj,Sf,SC]at h;simp only[R7,nw,Sf,SC];refine⟨yv H u r h.1,h.2.1,h.2.2.1.imp id (rW u r),?_⟩;have G:=h.2.2.2;cases I:PK i with
  |none=>rfl
  |some k=>rw[I]at G;exact rW u r G
def Gw.nx:Gw->Bool
 |.op nd r=>Pj (r++[.lv nd])
 |.ex r=>Pj r
 |.ref=>true
def xF (s:ByteArray):(co s).nx=true:=by
 unfold co
 repeat' split
 all_goals kernel_rfl
def G7 (o:Option Tv) (m:M):(cj o m).nx=true:=by
 cases m with
 |kind=>
  simp only[cj]
  by_cases u:o.elim false (wk 2 ⟨#[97,114,114,97,121]⟩)=true
  ·rw[Or u];kernel_rfl
  ·rw[Eq u]
   by_cases G:o.elim false (wk 2 ⟨#[114,101,99,111,114,100]⟩)=true
   ·rw[Or G];kernel_rfl
   ·rw[Eq G];kernel_rfl
 |statement=>
  cases o with
  |none=>rfl
  |some t=>
   simp only[cj]
   by_cases u:(t.k==1)=true
   ·rw[Or u];kernel_rfl
   ·rw[Eq u]
    by_cases G:(t.k==2)=true
    ·rw[Or G];exact xF t.t
    ·rw[Eq G];rfl
 |factor=>
  cases o with
  |none=>rfl
  |some t=>
   simp only[cj,M.row]
   by_cases u:(ci t==25)=true
   ·rw[Or u];kernel_rfl
   rw[Eq u]
   by_cases u:(ci t==26)=true
   ·rw[Or u];kernel_rfl
   rw[Eq u]
   by_cases u:(ci t==27)=true
   ·rw[Or u];kernel_rfl
   rw[Eq u]
   by_cases u:(ci t==32)=true
   ·rw[Or u];kernel_rfl
   rw[Eq u]
   by_cases u:(ci t==28)=true
   ·rw[Or u];kernel_rfl
   rw[Eq u];rfl
 |_=>simp only[cj,M.row];kernel_rfl
def E9 {K:List It}(G:nw K=true) (u:xB .detail K=true):∀(r:List Fl),L9 r=true->nw (r.map It.fl++K)=true
 |[],_=>G
 |x :: r,h=>by
  simp only[L9,Sf,SC]at h;simp only[TF,R7,nw,Sf,SC];refine⟨E9 G u r h.1,rfl,h.2.imp id (λH=>?_),rfl⟩;cases r with
  |nil=>exact u
  |cons y r=>
   simp only[TF,R7,xB,SC];exact .inl H
def nF {i:It}{K:List It}(h:nw (i :: K)=true):nw K=true/\Ps i=true/\(Jl i=false->xB .detail K=true)/\(∀k,PK i=some k->xB k K=true):=by
 simp only[nw,Sf,SC]at h;refine⟨h.1,h.2.1,λe=>h.2.2.1.resolve_left (by rw[e];decide),λk e=>?_⟩;have:=h.2.2.2;rw[e]at this;exact this
def rp {p:Pk}{j:It}(h:bk o p=some j) (u:∀r,p=.row r->L9 r=true):Ps j=true/\PK j=none/\Jl j=false:=by
 cases o with
 |none=>cases h
 |some t=>
  cases p with
  |fn d=>
   simp only[bk]at h
   split at h
   ·simp only[SX]at h;obtain⟨m,_,rfl⟩:=h;exact⟨rfl,rfl,rfl⟩
   ·cases h
  |row r=>
   simp only[bk,Pk.pick]at h
   split at h
   ·cases h;exact⟨u r rfl,rfl,rfl⟩
   ·cases h
  |ex m=>
   simp only[bk,Pk.pick]at h
   split at h
   ·cases h
   ·cases h;exact⟨rfl,rfl,rfl⟩
def Oe {L:List Tv}{i:It}{K:List It}{d:D}(h:nw (i :: K)=true):nw ((dst L i d).1++K)=true:=by
 obtain⟨u,H,I,Q⟩:=nF h;cases i with
 |fl x=>
  by_cases M:∃m,x=.mt m
  ·obtain⟨m,rfl⟩:=M;have G:=G7 (cB L d) m;simp only[dst];cases hd:cj (cB L d) m with
   |ref=>exact u
   |ex r=>rw[hd]at G;exact yv u (I rfl) r G
   |op nd r=>rw[hd]at G;exact yv u (I rfl) _ G
  ·have e:dst L (.fl x) d=([],eu L (qn L d (λt=>x.takes t)) d):=by
    cases x with
    |mt m=>exact absurd ⟨m,rfl⟩ M
    |_=>rfl
   rw[e];exact u
 |lv n=>exact u
 |all r=>exact E9 u (I rfl) r H
 |once p=>
  simp only[dst];cases J:bk (cB L d) p with
  |none=>exact u
  |some j=>
   obtain⟨a,b,c⟩:=rp J (λr e=>by subst e;exact H);show nw (j :: K)=true;simp only[nw,Sf,SC,a,b,u,I rfl,and_self,or_true]
 |again p=>
  simp only[dst];cases J:bk (cB L d) p with
  |none=>exact u
  |some j=>
   have G:(∀r,p=.row r->L9 r=true)/\Qj .detail (.again p)=true:=by
    cases p with
    |fn k=>exact⟨(λr e=>by cases e),rfl⟩
    |row r=>
     simp only[Ps,Sf]at H;exact⟨(λr' e=>by cases e;exact H.1),H.2⟩
    |ex m=>cases H
   obtain⟨a,b,c⟩:=rp J G.1;show nw (j :: .again p :: K)=true
   have O:xB .detail (.again p :: K)=true:=by
    simp only[xB,SC,Sf];exact .inr ⟨G.2,I rfl⟩
   rw[nw];simp only[Sf,SC,a,b,h,O,and_self,or_true]
def Ko:nw (cd++[.lv 1])=true:=by kernel_rfl
end
variable {r K':List It}{n code q:Int}{i:It}{k:Nat}{E o:List Ev}{L:List Tv}{d d':D}{m:M}{ts:List ByteArray}
def ja {t:Tv}(u:It.step t i=.ref) {k:Nat}{K:List It}{n:Int}{E:List Ev}{R:Ro}(h:Ru t k (i :: K) n E R):R=.no:=by
 cases h with
 |ref _=>rfl
 |tk h=>rw[u]at h;cases h
 |go h _=>rw[u]at h;cases h
def nj {t:Tv}(h:Fl.takes t (.wd q ts)=false):It.step t (.fl (.wd q ts))=.ref:=by
 simp[It.step,Fl.step,h]
def EV {t:Tv}{d:Int}(u:It.step t i=.go d o (.fl (.wd q ts) :: r)) (G:(t.k==q)=false) {k:Nat}{K:List It}{n:Int}{E:List Ev}{R:Ro}(h:Ru t k (i :: K) n E R):R=.no:=by
 cases h with
 |ref _=>rfl
 |tk h=>rw[u]at h;cases h
 |go h hr=>
  rw[u]at h;cases h;exact ja (nj (by simp[Fl.takes,G])) hr
def uY {t:Tv}{k:Dk}(u:k.pick t=some m) (G:(t.k==k.kd)=false) {j:Nat}{K:List It}{n:Int}{E:List Ev}{R:Ro}(h:Ru t j (.fl (.mt m) :: K) n E R):R=.no:=by
 cases k<;>simp only[Dk.pick]at u<;>simp only[Dk.kd]at G
 all_goals(repeat' (split at u))
 all_goals first
  | (cases u;done)
  | (cases u;exact EV rfl G h)
def jg (u:d.e=0):dG n d=lN d [⟨1,n,av⟩]:=by
 unfold dG;rw[Or u];rfl
def Bm {n:Int}{d:D}(u:d.e=0):mY n d=lN d [⟨3,n,av⟩]:=by
 unfold mY;rw[Or u];rfl
def wV {t:Tv}(u:m≠.kind) (G:m≠.statement):cj (some t) m=M.row t m:=by
 cases m<;>first|rfl|exact absurd rfl u|exact absurd rfl G
def mq (s:ByteArray):co s=.ref\/∃nd r,co s=.op nd (.fl (.wd 2 [s]) :: r):=by
 unfold co
 repeat' split
 all_goals first
  |exact .inl rfl
  |exact .inr ⟨_,_,rfl⟩
def gr {t:Tv}(H:cB L d=some t) {m:M}{dn:Int}{o:List Ev}{r:List It}(u:It.step t (.fl (.mt m))=.go dn o r) (I:cj (some t) m=M.row t m):dst L (.fl (.mt m)) d=(r,lN d o):=by
 have J:=(ef H).1;simp only[dst,H,I];simp only[It.step,Fl.step]at u;cases G:M.row t m with
 |ref=>rw[G]at u;cases u
 |ex r'=>rw[G]at u;cases u;simp only[io]
 |op nd r'=>rw[G]at u;cases u;simp only[jg J]
def qQ {t:Tv}{p:Pk}:bk (some t) p=Pk.pick t p\/∃k m,p=.fn k/\k.pick t=some m/\(t.k==k.kd)=false/\bk (some t) p=none:=by
 cases p with
 |fn k=>
  simp only[bk,Pk.pick]
  by_cases h:(t.k==k.kd)=true
  ·exact .inl (Or h)
  ·have u:(t.k==k.kd)=false:=by simpa using h
   rw[Eq h];cases G:k.pick t with
   |none=>exact .inl rfl
   |some m=>exact .inr ⟨k,m,rfl,G,u,rfl⟩
 |row r=>exact .inl rfl
 |ex m=>exact .inl rfl
def Iq {t:Tv}{k:Dk}(u:k.pick t=some m) (J:(t.k==k.kd)=false):bad k t:=by
 refine⟨J,λe=>?_⟩;subst e;simp only[Dk.pick]at u;cases G:t.is [91]with
 |true=>rfl
 |false=>
  cases H:t.is [46]with
  |true=>rfl
  |false=>
   cases I:t.is [40]with
   |true=>rfl
   |false=>rw[G,H,I]at u;cases u
def Ew {t:Tv}(H:cB L d=some t) {i:It}{dn:Int}{o:List Ev}{r:List It}(u:It.step t i=.go dn o r) :
  dst L i d=(r,lN d o)\/((∀k K n E R,Ru t k (r++K) n E R->R=.no)/\(∀K,nw (i :: K)=true->j8 L (i :: K) d)):=by
 have hz:=(ef H).1;cases i with
 |fl x=>
  cases x with
  |mt m=>
   by_cases h1:m=.kind
   ·subst h1
    by_cases k1:(t.k==1)=true
    ·refine .inl (gr H u ?_);have Q:t.k=1:=by simpa using k1
     simp[cj,M.row,wk,Q]
    ·have G:(t.k==1)=false:=by simpa using k1
     by_cases Z:(t.k==2)=true
     ·have a1:wk 2 ⟨#[97,114,114,97,121]⟩ t=t.is [97,114,114,97,121]:=by rw[qv,Z,show(ByteArray.mk #[97,114,114,97,121]).toList=[97,114,114,97,121]by decide +kernel];rfl
      have a2:wk 2 ⟨#[114,101,99,111,114,100]⟩ t=t.is [114,101,99,111,114,100]:=by rw[qv,Z,show(ByteArray.mk #[114,101,99,111,114,100]).toList=[114,101,99,111,114,100]by decide +kernel];rfl
      by_cases O:t.is [97,114,114,97,121]=true
      ·refine .inl (gr H u ?_);simp[cj,M.row,a1,O,G]
      ·by_cases b2:t.is [114,101,99,111,114,100]=true
       ·refine .inl (gr H u ?_);simp[cj,M.row,a1,a2,O,b2,G]
       ·simp[It.step,Fl.step,M.row,G,O,b2,Gw.sr]at u
     ·have I:(t.k==2)=false:=by simpa using Z
      have a1:wk 2 ⟨#[97,114,114,97,121]⟩ t=false:=by simp only[wk,I,Wd]
      have a2:wk 2 ⟨#[114,101,99,111,114,100]⟩ t=false:=by simp only[wk,I,Wd]
      refine .inr ⟨?_,λK _=>?_⟩
      ·intro k K n E R J
       by_cases O:t.is [97,114,114,97,121]=true
       ·simp only[It.step,Fl.step,M.row,G,O,R5,SW,TU,Gw.sr]at u;cases u;exact ja (nj (by simp[Fl.takes,I])) J
       ·by_cases b2:t.is [114,101,99,111,114,100]=true
        ·simp only[It.step,Fl.step,M.row,G,O,b2,R5,SW,TU,Gw.sr]at u;cases u;exact ja (nj (by simp[Fl.takes,I])) J
        ·simp[It.step,Fl.step,M.row,G,O,b2,Gw.sr]at u
      ·have e:dst L (.fl (.mt .kind)) d=([.fl .nm,.lv 8],dG 8 d):=by
        simp only[dst,H,cj,Option.elim,a1,a2,R5,SW];rfl
       refine j8.step ?_ ?_
       ·rw[e];refine ss (t:=t) ?_ cE (by simp[Fl.takes,G]);rw[jg hz];exact H
       ·rw[e,jg hz];rfl
   ·by_cases h2:m=.statement
    ·subst h2
     by_cases k1:(t.k==1)=true
     ·refine .inl (gr H u ?_);simp[cj,M.row,k1]
     ·have G:(t.k==1)=false:=by simpa using k1
      by_cases Z:(t.k==2)=true
      ·refine .inl (gr H u ?_);simp[cj,M.row,G,Z]
      ·have I:(t.k==2)=false:=by simpa using Z
       refine .inr ⟨?_,λK _=>?_⟩
       ·intro k K n E R J;simp only[It.step,Fl.step,M.row,G,R5,SW]at u
        rcases mq t.t with e|⟨nd,r',e⟩
        ·rw[e]at u;cases u
        ·rw[e]at u;cases u;exact ja (nj (by simp[Fl.takes,I])) J
       ·have e:dst L (.fl (.mt .statement)) d=([],eu L false d):=by
         simp only[dst,H,cj,G,I,R5,SW]
        refine⟨K,eu L false d,?_,?_,.inl ?_⟩
        ·refine .step ?_;rw[e];exact .refl
        ·simp[eu,hz,(ef H).2.2]
        ·simp[eu,hz,(ef H).2.2]
    ·exact .inl (gr H u (wV h1 h2))
  |_=>
   simp only[It.step,Fl.step]at u
   split at u<;>cases u
 |lv n=>
  cases u;exact .inl (by simp only[dst,Bm (n:=n) hz])
 |all r=>cases u;exact .inl (by rw[io];rfl)
 |once p=>
  rcases qQ (t:=t) (p:=p)with e|⟨k,m,rfl,S,Q,e⟩
  ·cases u;refine .inl ?_;simp only[dst,H,e,io]
  ·refine .inr ⟨?_,λK hK=>?_⟩
   ·intro j K n E R J;simp only[It.step,Pk.pick,S,Uz,Option.toList]at u;cases u;exact uY S Q J
   ·have Y:=nF hK;refine j8.step ?_ rfl;simp only[dst,H,e];exact rX (Iq S Q) K d (Y.2.2.2 k rfl) H
 |again p=>
  rcases qQ (t:=t) (p:=p)with e|⟨k,m,rfl,S,Q,e⟩
  ·cases u;refine .inl ?_;simp only[dst,H,e,io]
  ·refine .inr ⟨?_,λK hK=>?_⟩
   ·intro j K n E R J;simp only[It.step,Pk.pick,S,Uz,IJ]at u;cases u;exact uY S Q J
   ·have Y:=nF hK;refine j8.step ?_ rfl;simp only[dst,H,e];exact rX (Iq S Q) K d (Y.2.2.2 k rfl) H
def Qv {t:Tv}{L:List Tv}{k:Nat}{K:List It}{n:Int}{E:List Ev}{R:Ro}(h:Ru t k K n E R):∀(d:D),cB L d=some t->nw K=true ->
  (∀G m F,R=.yes G m F->nw G=true/\∃x o,F=E++o/\(∀m,x≠Fl.mt m)/\x.takes t=true/\me L K d (.fl x :: G) (lN d o))/\(R=.no->j8 L K d):=by
 induction h with
 |nil=>
  intro d u _;exact⟨(λG m F e=>by cases e),λ_=>⟨[],d,.refl,rfl,.inr ⟨rfl,(ef u).1⟩⟩⟩
 |ref hs=>
  rename_i i K n E
  intro d u O;refine⟨(λG m F e=>by cases e),λ_=>?_⟩;cases i with
  |fl x=>
   by_cases J:∃m,x=.mt m
   ·obtain⟨m,rfl⟩:=J;have Z:=(ef u).1
    have fin:cj (some t) m=.ref->j8 L (.fl (.mt m) :: K) d:=λe=>by
     refine⟨K,eu L false d,?_,by simp[eu,Z,(ef u).2.2],.inl (by simp[eu,Z,(ef u).2.2])⟩;refine .step ?_;simp only[dst,u,e];exact .refl
    by_cases S:m=.kind
    ·subst S;simp only[It.step,Fl.step,M.row]at hs
     by_cases H:(t.k==1)=true
     ·rw[Or H]at hs;cases hs
     rw[Eq H]at hs
     by_cases b1:t.is [97,114,114,97,121]=true
     ·rw[Or b1]at hs;cases hs
     rw[Eq b1]at hs
     by_cases b2:t.is [114,101,99,111,114,100]=true
     ·rw[Or b2]at hs;cases hs
     have a1:wk 2 ⟨#[97,114,114,97,121]⟩ t=false:=by
      rw[qv,show(ByteArray.mk #[97,114,114,97,121]).toList=[97,114,114,97,121]by decide +kernel];have:(t.t.toList==[97,114,114,97,121])=false:=by simpa[Tv.is]using b1
      rw[this,Bool.and_false]
     have a2:wk 2 ⟨#[114,101,99,111,114,100]⟩ t=false:=by
      rw[qv,show(ByteArray.mk #[114,101,99,111,114,100]).toList=[114,101,99,111,114,100]by decide +kernel];have:(t.t.toList==[114,101,99,111,114,100])=false:=by simpa[Tv.is]using b2
      rw[this,Bool.and_false]
     have e:dst L (.fl (.mt .kind)) d=([.fl .nm,.lv 8],dG 8 d):=by
      simp only[dst,u,cj,Option.elim,a1,a2,R5,SW];rfl
     refine j8.step ?_ ?_
     ·rw[e];refine ss (t:=t) ?_ cE (by simpa[Fl.takes]using H);rw[jg Z];exact u
     ·rw[e,jg Z];rfl
    ·by_cases Y:m=.statement
     ·subst Y;refine fin ?_;simp only[It.step,Fl.step,M.row]at hs
      by_cases H:(t.k==1)=true
      ·rw[Or H]at hs;cases hs
      rw[Eq H]at hs;simp only[cj,Eq H]
      split
      ·rcases mq t.t with e|⟨nd,r',e⟩
       ·exact e
       ·rw[e]at hs;cases hs
      ·rfl
     ·refine fin ?_;rw[wV S Y];simp only[It.step,Fl.step]at hs;cases I:M.row t m with
      |ref=>rfl
      |ex r=>rw[I]at hs;cases hs
      |op nd r=>rw[I]at hs;cases hs
   ·refine ss u (λm e=>J ⟨m,e⟩) ?_;cases x with
    |mt m=>exact absurd ⟨m,rfl⟩ J
    |_=>
     simp only[It.step,Fl.step]at hs
     split at hs
     ·cases hs
     ·rename_i h;simpa using h
  |_=>cases hs
 |tk hs=>
  rename_i i K n E
  intro d u O;refine⟨λG m F e=>?_,(λe=>by cases e)⟩;cases e;refine⟨(nF O).1,?_⟩;cases i with
  |fl x=>
   have J:∀m,x≠.mt m:=by
    intro m e;subst e;simp only[It.step,Fl.step]at hs;cases I:M.row t m<;>rw[I]at hs<;>cases hs
   refine⟨x,[],by simp,J,?_,by rw[io];exact .refl⟩;cases x with
   |mt m=>exact absurd rfl (J m)
   |_=>
    simp only[It.step,Fl.step]at hs
    split at hs
    ·rename_i h;exact h
    ·cases hs
  |_=>cases hs
 |go hs I ih=>
  rename_i k i K n dn E o r R
  intro d u O
  rcases Ew u hs with e|⟨e1,e2⟩
  ·have Q:=Oe (L:=L) (d:=d) O;have aa:cB L (lN d o)=some t:=u;rw[e]at Q;obtain⟨S,Y⟩:=ih (lN d o) aa Q;refine⟨λG m F eR=>?_,λeR=>?_⟩
   ·obtain⟨a,x,o2,b,c,f,g⟩:=S G m F eR;refine⟨a,x,o++o2,by rw[b,RW],c,f,.step ?_⟩;rw[e,<-Fq];exact g
   ·refine j8.step ?_ (by rw[e];rfl);rw[e];exact Y eR
  ·have:=e1 _ _ _ _ _ I;subst this;exact⟨(λG m F e=>by cases e),λ_=>e2 K O⟩
inductive mf|live (K:List It) (n:Int)|stuck (e n:Int)|shut
def beg (K:List It) (n:Int):List It:=if n==0 then cd++.lv 1 :: K else K
def jY (n:Int):Int:=if n==0 then 1 else n
def er (n:Int):List Ev:=if n==0 then[⟨1,1,av⟩]else[]
inductive jE (t:Tv):mf->List Ev->Int->mf->Prop
 |shut:jE t .shut [] 4 .shut
 |stuck {e n:Int}:jE t (.stuck e n) [] e (.stuck e n)
 |note {K:List It} {n:Int}:(t.k==7||t.k==8)=true->jE t (.live K n) (er n++[⟨4,0,t⟩]) 0 (.live (beg K n) (jY n))
 |no {K:List It} {n:Int} {k:Nat}:(t.k==7||t.k==8)=false->Ru t k (beg K n) (jY n) (er n) .no->k<=(beg K n).length+20->jE t (.live K n) [] 120 (.stuck 120 n)
 |deep {K L:List It} {n m:Int} {E:List Ev} {k:Nat}:(t.k==7||t.k==8)=false->Ru t k (beg K n) (jY n) (er n) (.yes L m E)->k<=(beg K n).length+20->1000<m->jE t (.live K n) [] 122 (.stuck 122 n)
 |yes {K L:List It} {n m:Int} {E:List Ev} {k:Nat}:(t.k==7||t.k==8)=false->Ru t k (beg K n) (jY n) (er n) (.yes L m E)->k<=(beg K n).length+20->m<=1000->jE t (.live K n) (E++[⟨2,0,t⟩]) 0 (.live L m)
structure Lz (K:List It) (n:Int):Prop where
 wf:li K
 lv:((bV K).length:Int)=n
 sn:(bV K).length<=5000000
 sk:K.length<=500000
inductive xz:mf->List Ev->Int->Prop
 |shut:xz .shut [] 4
 |stuck {e n:Int}:xz (.stuck e n) [] e
 |all {K:List It} {n:Int}:K.length=1->xz (.live K n) [⟨3,1,av⟩] 0
 |open {K:List It} {n:Int}:K.length≠1->xz (.live K n) [] 121
def Fl.ht:Fl->Nat
 |.mt .typed=>5
 |.mt .list=>3
 |_=>1
def rh:List Fl->Nat
 |[]=>0
 |x :: r=>max (x.ht+r.length) (rh r)
def Pk.ht:Pk->Nat
 |.row r=>rh r
 |.fn _=>1
 |.ex m=>(Fl.mt m).ht
def It.ht:It->Nat
 |.fl x=>x.ht
 |.lv _=>0
 |.once p=>max 1 p.ht
 |.again p=>1+max 1 p.ht
 |.all r=>max 1 (rh r)
def fG:List It->Nat
 |[]=>0
 |.lv _ :: _=>0
 |_ :: K=>1+fG K
def fb:List It->Prop
 |[]=>True
 |.lv _ :: K=>fb K
 |i :: K=>i.ht+fG K<=15/\fb K
def Fl.ht_pos (x:Fl):1<=x.ht:=by
 cases x with
 |mt m=>cases m<;>decide
 |_=>exact ge _
def It.ht_pos (i:It) (h:∀n,i≠.lv n):1<=i.ht:=by
 cases i with
 |fl x=>exact x.ht_pos
 |lv n=>exact absurd rfl (h n)
 |once p=>simp only[It.ht];omega
 |again p=>simp only[It.ht];omega
 |all r=>simp only[It.ht];omega
def kV (h:∀n,i≠.lv n) (K:List It):fG (i :: K)=1+fG K:=by
 cases i with
 |lv n=>exact absurd rfl (h n)
 |_=>rfl
def eG (h:∀n,i≠.lv n) (K:List It):fb (i :: K)↔i.ht+fG K<=15/\fb K:=by
 cases i with
 |lv n=>exact absurd rfl (h n)
 |_=>exact Iff.rfl
def yL:∀{K:List It},fb K->fG K<=15
 |[],_=>RU _
 |i :: K,h=>by
  by_cases hl:∃n,i=.lv n
  ·obtain⟨n,rfl⟩:=hl;exact RU _
  ·have u:∀n,i≠.lv n:=λn e=>hl ⟨n,e⟩
   have G:=((eG u K).1 h).1;have:=i.ht_pos u;rw[kV u];omega
def tu:∀{K:List It},fb K->K.length<=16*(bV K).length+fG K
 |[],_=>RU _
 |i :: K,h=>by
  by_cases hl:∃n,i=.lv n
  ·obtain⟨n,rfl⟩:=hl;have G:fb K:=h;have:=tu G;have:=yL G;simp[bV,fG];omega
  ·have u:∀n,i≠.lv n:=λn e=>hl ⟨n,e⟩
   have:=tu ((eG u K).1 h).2
   have e:bV (i :: K)=bV K:=by
    cases i with
    |lv n=>exact absurd rfl (u n)
    |_=>rfl
   rw[kV u,e];simp;omega
def N6 (r:List Fl) (K:List It) (h:rh r+fG K<=15) (H:fb K):fb (r.map It.fl++K)/\fG (r.map It.fl++K)=r.length+fG K:=by
 induction r with
 |nil=>exact⟨H,by simp⟩
 |cons x r ih=>
  simp only[rh]at h;obtain⟨G,u⟩:=ih (by omega);refine⟨(eG (λn e=>by cases e) _).2 ⟨?_,G⟩,?_⟩
  ·show x.ht+fG (r.map It.fl++K)<=15;rw[u];omega
  ·show fG (.fl x :: (r.map It.fl++K))=_;rw[kV (λn e=>by cases e),u,List.length_cons];omega
def At {t:Tv}{p:Pk}(h:Pk.pick t p=some i):i.ht<=max 1 p.ht/\∀n,i≠.lv n:=by
 cases p with
 |fn d=>
  simp only[Pk.pick,SX]at h;obtain⟨m,u,rfl⟩:=h;have:=tI u;refine⟨?_,λn e=>by cases e⟩
  rcases this with rfl|rfl|rfl|rfl|rfl|rfl|rfl<;>exact ge 1
 |row r=>
  simp only[Pk.pick]at h
  split at h
  ·cases h;exact⟨ge _,λn e=>by cases e⟩
  ·cases h
 |ex m=>
  simp only[Pk.pick]at h
  split at h
  ·cases h
  ·cases h;exact⟨by show(Fl.mt m).ht<=max 1 (Fl.mt m).ht;omega,λn e=>by cases e⟩
def Gw.fb (m:M):Gw->Prop
 |.ref=>True
 |.ex r=>∀K,(Fl.mt m).ht+fG K<=15->Go.Proofs.YthfjlkfeeglfmaaGreatDoor.fb K->Go.Proofs.YthfjlkfeeglfmaaGreatDoor.fb (r++K)
 |.op nd r=>∀K,Go.Proofs.YthfjlkfeeglfmaaGreatDoor.fb K->Go.Proofs.YthfjlkfeeglfmaaGreatDoor.fb (r++.lv nd :: K)
def Nc (t:Tv) (m:M):(M.row t m).fb m:=by
 cases m<;>simp only[M.row,co]<;>(repeat' split)<;>simp[Gw.fb,fb,fG,It.ht,Fl.ht,Pk.ht,rh]
 all_goals(intro K G u;simp only[u,and_true];omega)
def JB {t:Tv}{d:Int}{K:List It}(h:It.step t i=.go d o r) (J:fb (i :: K)):fb (r++K):=by
 cases i with
 |fl x=>
  obtain⟨H,G⟩:=(eG (λn e=>by cases e) K).1 J
  have S:∃m,x=.mt m:=by
   cases x with
   |mt m=>exact⟨m,rfl⟩
   |_=>simp only[It.step,Fl.step]at h;split at h<;>cases h
  obtain⟨m,rfl⟩:=S;have O:=Nc t m;simp only[It.step,Fl.step]at h;cases u:M.row t m with
  |ref=>rw[u]at h;cases h
  |ex r'=>rw[u]at h O;cases h;exact O K H G
  |op nd r'=>rw[u]at h O;cases h;rw[RW];exact O K G
 |lv n=>cases h;exact J
 |once p=>
  obtain⟨H,G⟩:=(eG (λn e=>by cases e) K).1 J;simp only[It.step]at h;cases I:Pk.pick t p with
  |none=>rw[I]at h;cases h;exact G
  |some j=>
   rw[I]at h;cases h;obtain⟨a,b⟩:=At I;exact(eG b K).2 ⟨by simp only[It.ht]at H;omega,G⟩
 |again p=>
  have Q:∀n,It.again p≠.lv n:=λn e=>by cases e
  obtain⟨H,G⟩:=(eG Q K).1 J;simp only[It.step]at h;cases I:Pk.pick t p with
  |none=>rw[I]at h;cases h;exact G
  |some j=>
   rw[I]at h;cases h;obtain⟨a,b⟩:=At I;refine(eG b _).2 ⟨?_,J⟩;show j.ht+fG (.again p :: K)<=15;rw[kV Q];simp only[It.ht]at H;omega
 |all r'=>
  obtain⟨H,G⟩:=(eG (λn e=>by cases e) K).1 J;cases h;exact(N6 r' K (by simp only[It.ht]at H;omega) G).1
def cW:List Int->List Ev->Option (List Int)
 |s,[]=>some s
 |s,e :: r=>if e.k=1 then cW (e.n :: s) r else if e.k=3 then(match s with|n :: s'=>if n=e.n then cW s' r else none|[]=>none)else cW s r
def dQ:∀(a b:List Ev) (s s':List Int),cW s a=some s'->cW s (a++b)=cW s' b
 |[],b,s,s',h=>by cases h;rfl
 |e :: r,b,s,s',h=>by
  simp only[cW,R7]at h ⊢
  split
  ·rename_i u;rw[Or u]at h;exact dQ r b _ _ h
  ·rename_i u
   rw[Eq u]at h
   split
   ·rename_i G
    rw[Or G]at h;cases s with
    |nil=>cases h
    |cons n s=>
     simp only at h ⊢
     split
     ·rename_i H;rw[Or H]at h;exact dQ r b _ _ h
     ·rename_i H;rw[Eq H]at h;cases h
   ·rename_i G;rw[Eq G]at h;exact dQ r b _ _ h
def B2 {t:Tv}{d:Int}{K:List It}(h:It.step t i=.go d o r) (I:i.wf):cW (bV (i :: K)) o=some (bV (r++K)):=by
 have O:=iX (K:=K) h I;cases i with
 |fl x=>
  have J:∃m,x=.mt m:=by
   cases x with
   |mt m=>exact⟨m,rfl⟩
   |_=>simp only[It.step,Fl.step]at h;split at h<;>cases h
  obtain⟨m,rfl⟩:=J;have H:=jS t m;simp only[It.step,Fl.step]at h;cases u:M.row t m with
  |ref=>rw[u]at h;cases h
  |ex r'=>rw[u]at h H;cases h;rw[bH,H.2.2];rfl
  |op nd r'=>rw[u]at h H;cases h;rw[bH,bH,H.2.2.1];rfl
 |lv n=>cases h;simp[cW,bV]
 |once p=>
  simp only[It.step]at h;cases G:Pk.pick t p with
  |none=>rw[G]at h;cases h;rfl
  |some j=>rw[G]at h;cases h;show some (bV K)=some (bV ([j]++K));rw[bH,(nz I G).2];rfl
 |again p=>
  simp only[It.step]at h;cases G:Pk.pick t p with
  |none=>rw[G]at h;cases h;rfl
  |some j=>rw[G]at h;cases h;show some (bV K)=some (bV ([j]++([.again p]++K)));rw[bH,(nz I G).2];rfl
 |all r'=>cases h;rw[bH,yz];rfl
structure Ok (K:List It) (n:Int):Prop where
 wf:li K
 fb:fb K
 lv:((bV K).length:Int)=n
 le:n<=1000
def Ok.lz {K:List It}(h:Ok K n):Lz K n:=by
 have u:=h.lv;have G:=h.le;have H:=tu h.fb;have I:=yL h.fb;exact⟨h.wf,h.lv,by omega,by omega⟩
def fM {t:Tv}{K:List It}{R:Ro}(h:Ru t k K n E R):∀{L:List It}{m:Int}{F:List Ev},R=.yes L m F->li K->fb K->((bV K).length:Int)=n ->
  li L/\fb L/\((bV L).length:Int)=m/\∃o,F=E++o/\cW (bV K) o=some (bV L)/\(∀e∈o,e.d=av/\(e.k=1\/e.k=3)/\(e.k=1->e.n≠1))/\o.length<=k:=by
 induction h with
 |nil=>intro L m F h;cases h
 |ref _=>intro L m F h;cases h
 |tk hs=>
  rename_i i K n E
  intro L m F h H I O;cases h;have hl:∀a,i≠.lv a:=λa e=>by subst e;cases hs
  have e:bV (i :: K)=bV K:=by
   cases i with
   |lv a=>exact absurd rfl (hl a)
   |_=>rfl
  rw[e]at O;exact⟨λj J=>H j (R1 _ J),((eG hl K).1 I).2,O,[],by simp,by rw[e];rfl,λx u=>by simp at u,RU _⟩
 |go hs _ ih=>
  rename_i k i K n d E o r R _
  intro L m F h H I O;have Q:=H i (RZ ..);obtain⟨Z,a2,a3,a4⟩:=iX (K:=K) hs Q;obtain⟨b1,b2,b3,o2,b4,b5,b6,b7⟩:=ih h (iU Z (λj J=>H j (R1 _ J))) (JB hs I) (by omega);refine⟨b1,b2,b3,o++o2,by rw[b4,RW],(dQ o o2 _ _ (B2 hs Q)).trans b5,?_,by simp;omega⟩;intro x u
  rcases Ss.1 u with u|u
  ·cases i with
   |fl y=>
    have hm:∃m,y=.mt m:=by
     cases y with
     |mt m=>exact⟨m,rfl⟩
     |_=>simp only[It.step,Fl.step]at hs;split at hs<;>cases hs
    obtain⟨Y,rfl⟩:=hm;have S:=jS t Y;simp only[It.step,Fl.step]at hs;cases G:M.row t Y with
    |ref=>rw[G]at hs;cases hs
    |ex r'=>rw[G]at hs;cases hs;simp at u
    |op nd r'=>rw[G]at hs S;cases hs;simp at u;subst u;exact⟨rfl,.inl rfl,λ_=>by have:=S.2.2.2.1;show nd≠1;omega⟩
   |lv a=>cases hs;simp at u;subst u;exact⟨rfl,.inr rfl,λe=>by cases e⟩
   |once p=>cases hs;simp at u
   |again p=>cases hs;simp at u
   |all r'=>cases hs;simp at u
  ·exact b6 x u
def Nx {K:List It}(h:Ok K n) (H:n=0->K=[]):li (beg K n)/\fb (beg K n)/\((bV (beg K n)).length:Int)=jY n/\cW (bV K) (er n)=some (bV (beg K n))/\(beg K n).length<=20000:=by
 have S:=h.lz;have O:=tu h.fb;have Q:=yL h.fb;have J:=h.lv;have M:=h.le
 by_cases u:n=0
 ·obtain rfl:=H u;subst u;refine⟨?_,?_,rfl,rfl,by simp[beg,cd]⟩
  ·intro i G;simp[beg,cd]at G
   rcases G with rfl|rfl|rfl|rfl|rfl|rfl<;>trivial
  ·simp[beg,cd,fb,It.ht,Fl.ht,fG]
 ·have I:(n==0)=false:=by simpa using u
  simp only[beg,jY,er,I,R5,SW];exact⟨h.wf,h.fb,h.lv,rfl,by omega⟩
def OT (K:List It):Prop:=∃X,K=X++[.lv 1]
def xX {t:Tv}{K:List It}{R:Ro}(h:Ru t k K n E R):∀{L:List It}{m:Int}{F:List Ev},R=.yes L m F->OT K->OT L:=by
 induction h with
 |nil=>intro L m F h;cases h
 |ref _=>intro L m F h;cases h
 |tk hs=>
  rename_i i K n E
  intro L m F h G;cases h;obtain⟨X,u⟩:=G;cases X with
  |nil=>simp at u;obtain⟨rfl,rfl⟩:=u;cases hs
  |cons j X=>simp at u;exact⟨X,u.2⟩
 |go hs hr ih=>
  rename_i k i K n d E o r R
  intro L m F h G;obtain⟨X,u⟩:=G;cases X with
  |nil=>
   simp at u;obtain⟨rfl,rfl⟩:=u;cases hs;cases hr;cases h
  |cons j X=>
   simp at u;obtain⟨rfl,rfl⟩:=u;exact ih h ⟨r++X,by simp⟩
def tY {K:List It}(h:OT K):1<=(bV K).length:=by
 obtain⟨X,rfl⟩:=h;rw[bH];simp[bV]
def gJ:mf->Prop
 |.live K n=>Ok K n/\((n=0/\K=[])\/OT K)
 |.stuck e n=>e=120\/e=122
 |.shut=>True
def dU:gJ (.live [] 0):=⟨⟨gN,trivial,rfl,by decide⟩,.inl ⟨rfl,rfl⟩⟩
def mf.path:mf->List Int
 |.live K _=>bV K
 |_=>[]
def df {K:List It}(h:gJ (.live K n)):li (beg K n)/\fb (beg K n)/\((bV (beg K n)).length:Int)=jY n/\cW (bV K) (er n)=some (bV (beg K n))/\(beg K n).length<=20000/\OT (beg K n)/\jY n<=1000/\(er n).length<=1:=by
 have G:n=0->K=[]:=by
  intro e
  rcases h.2 with u|u
  ·exact u.2
  ·have:=tY u;have:=h.1.lv;omega
 obtain⟨H,I,J,M,O⟩:=Nx h.1 G;have S:=h.1.le;refine⟨H,I,J,M,O,?_,by unfold jY;split<;>omega,by unfold er;split<;>simp⟩
 by_cases e:n=0
 ·obtain rfl:=G e;subst e;exact⟨cd,by simp[beg]⟩
 ·rcases h.2 with u|u
  ·exact absurd u.1 e
  ·have Q:(n==0)=false:=by simpa using e
   simp only[beg,Q,R5,SW];exact u
def dP {st st':mf}{t:Tv}{ev:List Ev}(h:gJ st) (Z:jE t st ev code st'):gJ st'/\ev.length<=30000/\(code=0->∃K n,st'=.live K n/\OT K)/\(code=0->cW st.path ev=some st'.path):=by
 cases Z with
 |shut=>exact⟨trivial,by simp,λh=>(by cases h),λh=>(by cases h)⟩
 |stuck=>exact⟨h,by simp,λO=>(by subst O;rcases h with h|h<;>cases h),λO=>(by subst O;rcases h with h|h<;>cases h)⟩
 |note hc=>
  obtain⟨H,I,J,M,Y,u,G,Q⟩:=df h;refine⟨⟨⟨H,I,J,G⟩,.inr u⟩,by simp;omega,λ_=>⟨_,_,rfl,u⟩,λ_=>?_⟩;refine(dQ _ _ _ _ M).trans ?_;simp[cW];rfl
 |no hc hR hk=>exact⟨.inl rfl,by simp,λh=>(by cases h),λh=>(by cases h)⟩
 |deep hc hR hk hm=>exact⟨.inr rfl,by simp,λh=>(by cases h),λh=>(by cases h)⟩
 |yes hc hR hk hm=>
  obtain⟨H,I,J,M,Y,u,G,Q⟩:=df h;obtain⟨c1,c2,c3,o,c4,c5,c6,c7⟩:=fM hR rfl H I J;have S:=xX hR rfl u;refine⟨⟨⟨c1,c2,c3,by omega⟩,.inr S⟩,by rw[c4];simp;omega,λ_=>⟨_,_,rfl,S⟩,λ_=>?_⟩;rw[c4,RW];refine(dQ _ _ _ _ M).trans ((dQ _ _ _ _ c5).trans ?_);simp[cW];rfl
def Nm {st:mf}(h:gJ st) (t:Tv):∃ev code st',jE t st ev code st':=by
 cases st with
 |shut=>exact⟨_,_,_,.shut⟩
 |stuck e n=>exact⟨_,_,_,.stuck⟩
 |live K n=>
  obtain⟨J,S,Y,Z,b5,I,Q,O⟩:=df h
  by_cases hc:(t.k==7||t.k==8)=true
  ·exact⟨_,_,_,.note hc⟩
  ·have u:(t.k==7||t.k==8)=false:=by simpa using hc
   obtain⟨k,R,H,G⟩:=L7 t (beg K n) J (jY n) (er n);cases R with
   |no=>exact⟨_,_,_,.no u G H⟩
   |yes L m F=>
    by_cases M:1000<m
    ·exact⟨_,_,_,.deep u G H M⟩
    ·exact⟨_,_,_,.yes u G H (by omega)⟩
def Id (st:mf):∃ev code,xz st ev code/\ev.length<=1:=by
 cases st with
 |live K n=>
  by_cases h:K.length=1
  ·exact⟨_,_,.all h,by simp⟩
  ·exact⟨_,_,.open h,by simp⟩
 |stuck e n=>exact⟨_,_,.stuck,by simp⟩
 |shut=>exact⟨_,_,.shut,by simp⟩
inductive gM:mf->List Tv->List Ev->Int->Nat->Prop
 |nil {st:mf} {ev:List Ev} {code:Int}:xz st ev code->gM st [] ev code 0
 |err {st st':mf} {t:Tv} {l:List Tv} {ev:List Ev} {code:Int}:jE t st ev code st'->code≠0->gM st (t :: l) [] code 0
 |on {st st':mf} {t:Tv} {l:List Tv} {ev E:List Ev} {code:Int} {k:Nat}:jE t st ev 0 st'->gM st' l E code k->gM st (t :: l) (ev++E) code (k+1)
def IE:∀(l:List Tv) (st:mf),gJ st->∃E code k,gM st l E code k
 |[],st,h=>by
  obtain⟨ev,code,u,_⟩:=Id st;exact⟨_,_,_,.nil u⟩
 |t :: l,st,h=>by
  obtain⟨ev,code,st',u⟩:=Nm h t;have G:=(dP h u).1
  by_cases hc:code=0
  ·subst hc;obtain⟨E,c,k,H⟩:=IE l st' G;exact⟨_,_,_,.on u H⟩
  ·exact⟨_,_,_,.err u hc⟩
def gM.inv {st:mf}{t:Tv}{l:List Tv}(h:gM st (t :: l) E code k):(∃ev st',jE t st ev code st'/\code≠0/\E=[]/\k=0)\/(∃ev st' u G,jE t st ev 0 st'/\gM st' l u code G/\E=ev++u/\k=G+1):=by
 cases h with
 |err h1 h2=>exact .inl ⟨_,_,h1,h2,rfl,rfl⟩
 |on h1 h2=>exact .inr ⟨_,_,_,_,h1,h2,rfl,rfl⟩
def gM.end {st:mf}(h:gM st [] E code k):xz st E code/\k=0:=by
 cases h with
 |nil h1=>exact⟨h1,rfl⟩
inductive xD (t:Tv):List It->Prop
 |fl {x:Fl} {K:List It}:xD t (.fl x :: K)
 |all {r:List Fl} {K:List It}:L6 r->xD t (.all r :: K)
 |onceS {p:Pk} {i:It} {K:List It}:Pk.pick t p=some i->xD t (.once p :: K)
 |againS {p:Pk} {i:It} {K:List It}:Pk.pick t p=some i->xD t (.again p :: K)
 |onceN {p:Pk} {K:List It}:Pk.pick t p=none->xD t K->xD t (.once p :: K)
 |againN {p:Pk} {K:List It}:Pk.pick t p=none->xD t K->xD t (.again p :: K)
def Gw.cm (t:Tv):Gw->Prop
 |.ref=>True
 |.ex r=>∀K,xD t (r++K)
 |.op nd r=>∀K,xD t (r++K)
def Hz (t:Tv) (p:Pk) (x:Fl) (K:List It):xD t (.again p :: .fl x :: K):=by
 cases h:Pk.pick t p with
 |none=>exact .againN h .fl
 |some i=>exact .againS h
def Ng (t:Tv) (m:M):(M.row t m).cm t:=by
 cases m<;>simp only[M.row,co]<;>(repeat' split)
 all_goals first
  |trivial
  | (intro K;exact .fl)
  | (intro K;exact Hz t _ _ _)
def vN {t:Tv}{p:Pk}(u:p.wf) {i:It}(h:Pk.pick t p=some i) (K:List It):xD t (i :: K):=by
 cases p with
 |fn d=>
  simp only[Pk.pick,SX]at h;obtain⟨m,_,rfl⟩:=h;exact .fl
 |row r=>
  simp only[Pk.pick]at h
  split at h
  ·cases h;exact .all u
  ·cases h
 |ex m=>
  simp only[Pk.pick]at h
  split at h
  ·cases h
  ·cases h;exact .fl
def uM {t:Tv}{d:Int}{K:List It}(h:It.step t i=.go d o r) (J:i.wf) (hc:xD t (i :: K)):xD t (r++K)/\(∀e∈o,e.k=1)/\0<=d:=by
 cases i with
 |fl x=>
  have O:∃m,x=.mt m:=by
   cases x with
   |mt m=>exact⟨m,rfl⟩
   |_=>simp only[It.step,Fl.step]at h;split at h<;>cases h
  obtain⟨m,rfl⟩:=O;have I:=Ng t m;simp only[It.step,Fl.step]at h;cases G:M.row t m with
  |ref=>rw[G]at h;cases h
  |ex r'=>rw[G]at h I;cases h;exact⟨I K,λe u=>by simp at u,by omega⟩
  |op nd r'=>rw[G]at h I;cases h;rw[RW];exact⟨I _,λe u=>by simp at u;subst u;rfl,by omega⟩
 |lv n=>cases hc
 |once p=>
  simp only[It.step]at h;cases H:Pk.pick t p with
  |none=>
   rw[H]at h;cases h;cases hc with
   |onceS h2=>rw[H]at h2;cases h2
   |onceN _ h2=>exact⟨h2,λe u=>by simp at u,by omega⟩
  |some j=>rw[H]at h;cases h;exact⟨vN J H K,λe u=>by simp at u,by omega⟩
 |again p=>
  simp only[It.step]at h;cases H:Pk.pick t p with
  |none=>
   rw[H]at h;cases h;cases hc with
   |againS h2=>rw[H]at h2;cases h2
   |againN _ h2=>exact⟨h2,λe u=>by simp at u,by omega⟩
  |some j=>rw[H]at h;cases h;exact⟨vN J H _,λe u=>by simp at u,by omega⟩
 |all r'=>
  cases h;obtain⟨⟨k,ts,rest,rfl⟩,_⟩:=J;exact⟨.fl,λe u=>by simp at u,by omega⟩
def EU {t:Tv}{K:List It}{R:Ro}(h:Ru t k K n E R):∀{L:List It}{m:Int}{F:List Ev},R=.yes L m F->li K->xD t K->∃o,F=E++o/\(∀e∈o,e.k=1):=by
 induction h with
 |nil=>intro L m F h;cases h
 |ref _=>intro L m F h;cases h
 |tk hs=>intro L m F h _ _;cases h;exact⟨[],by simp,λe u=>by simp at u⟩
 |go hs _ ih=>
  rename_i k i K n d E o r R _
  intro L m F h H hc;have G:=H i (RZ ..);obtain⟨I,J,O⟩:=uM hs G hc;obtain⟨o2,b1,b2⟩:=ih h (iU (iX (K:=K) hs G).1 (λj M=>H j (R1 _ M))) I;exact⟨o++o2,by rw[b1,RW],λe u=>(Ss.1 u).elim (J e) (b2 e)⟩
def ET {t:Tv}{K:List It}{R:Ro}(h:Ru t k K n E R):∀{L:List It}{m:Int}{F:List Ev},R=.yes L m F->li K->∃c o,F=E++(c++o)/\(∀e∈c,e.k=3)/\(∀e∈o,e.k=1):=by
 induction h with
 |nil=>intro L m F h;cases h
 |ref _=>intro L m F h;cases h
 |tk hs=>intro L m F h _;cases h;exact⟨[],[],by simp,λe u=>by simp at u,λe u=>by simp at u⟩
 |go hs hr ih=>
  rename_i k i K n d E o r R
  intro L m F h Q;have O:=Q i (RZ ..);have G:=iU (iX (K:=K) hs O).1 (λj hj=>Q j (R1 _ hj))
  by_cases hl:∃a,i=.lv a
  ·obtain⟨a,rfl⟩:=hl;cases hs;obtain⟨c,J,H,I,M⟩:=ih h G;exact⟨⟨3,a,av⟩ :: c,J,by rw[H];simp,λe u=>(Sm.1 u).elim (λZ=>by rw[Z]) (I e),M⟩
  ·
   by_cases hc:xD t (i :: K)
   ·obtain⟨S,Y,a3⟩:=uM hs O hc;obtain⟨J,H,I⟩:=EU hr h G S;exact⟨[],o++J,by rw[H];simp,λe u=>by simp at u,λe u=>(Ss.1 u).elim (Y e) (I e)⟩
   ·have ho:o=[]:=by
     cases i with
     |fl x=>exact absurd .fl hc
     |lv a=>exact absurd ⟨a,rfl⟩ hl
     |once p=>cases hs;rfl
     |again p=>cases hs;rfl
     |all r'=>cases hs;rfl
    subst ho;obtain⟨c,J,H,I,M⟩:=ih h G;exact⟨c,J,by rw[H];simp,I,M⟩
def ia (t:Tv):Bool:=t.k==7||t.k==8
def oL {t:Tv}{K:List It}{R:Ro}(h:Ru t k K n E R) :
  (R=.no->∀u,Ru t k K n u .no)/\(∀L m F,R=.yes L m F->∃o,F=E++o/\∀u,Ru t k K n u (.yes L m (u++o))):=by
 induction h with
 |nil=>exact⟨λ_ u=>.nil,λL m F e=>by cases e⟩
 |ref hs=>exact⟨λ_ u=>.ref hs,λL m F e=>by cases e⟩
 |tk hs=>
  refine⟨(λe=>by cases e),λL m F e=>?_⟩;cases e;exact⟨[],by simp,λu=>by simpa using Ru.tk hs⟩
 |go hs hr ih=>
  refine⟨λe u=>.go hs (ih.1 e _),λL m F e=>?_⟩;obtain⟨H,rfl,G⟩:=ih.2 L m F e;refine⟨_,(RW ..),λu=>.go hs ?_⟩;rw[<-RW];exact G _
def tL (N:Nat->List Ev):D:=⟨0,[],0,[],0,[],N⟩
def Mu (N:Nat->List Ev):dG 1 (tL N)=⟨0,[(1,1)],1,[],0,[⟨1,1,av⟩],N⟩:=rfl
def G6 {L:List Tv}{i:It}{d:D}(h:d.e≠0):(dst L i d).2=d:=by
 have u:cB L d=none:=by unfold cB;rw[Eq h]
 have G:∀f,qn L d f=false:=λf=>by unfold qn;rw[u];rfl
 have ht:eu L false d=d:=by simp[eu,h]
 cases i with
 |fl x=>
  cases x with
  |mt m=>
   simp only[dst];cases cj (cB L d) m with
   |ref=>exact ht
   |ex r=>rfl
   |op nd r=>exact vT h
  |_=>simp only[dst,G];exact ht
 |lv n=>exact xn h
 |_=>rfl
def kw {K:List It}(h:me L K d K' d') (u:d.e≠0):d'=d:=by
 induction h with
 |refl=>rfl
 |step _ ih=>
  rename_i i K K' d d' _
  have:=G6 (L:=L) (i:=i) u;rw[this]at ih;exact ih u
def A7 {L:List Tv}{i:It}{d:D}(u:d.e=0) (G:cB L d=none):(dst L i d).2.l=d.l/\(dst L i d).2.i=d.i/\(((dst L i d).2.e=0/\cB L (dst L i d).2=none)\/(dst L i d).2.e=121):=by
 have H:¬d.i<L.length:=by
  intro h;unfold cB at G;rw[Or u,Pi h]at G;cases G
 have I:∀f,qn L d f=false:=λf=>by unfold qn;rw[G];rfl
 have ht:eu L false d={ d with e:=121 }:=by simp[eu,u,H]
 cases i with
 |fl x=>
  cases x with
  |mt m=>
   simp only[dst];cases cj (cB L d) m with
   |ref=>simp only[ht];exact⟨trivial,trivial,.inr trivial⟩
   |ex r=>exact⟨rfl,rfl,.inl ⟨u,G⟩⟩
   |op nd r=>
    simp only;rw[jg u];exact⟨rfl,rfl,.inl ⟨u,G⟩⟩
  |_=>simp only[dst,I,ht];exact⟨trivial,trivial,.inr trivial⟩
 |lv n=>
  simp only[dst];rw[Bm (n:=n) u];exact⟨rfl,rfl,.inl ⟨u,G⟩⟩
 |_=>exact⟨rfl,rfl,.inl ⟨u,G⟩⟩
def J1 {K:List It}(h:me L K d K' d') (u:d.e=0) (G:cB L d=none):d'.l=d.l/\d'.i=d.i/\(d'.e=0\/d'.e=121):=by
 induction h with
 |refl=>exact⟨rfl,rfl,.inl u⟩
 |step hr ih=>
  rename_i i K K' d d'
  obtain⟨a,b,c⟩:=A7 (i:=i) u G
  rcases c with⟨c1,c2⟩|c
  ·grind
  ·have:=kw hr (by rw[c];decide);rw[this];exact⟨a,b,.inr c⟩
def Cs {x:Fl}(M:∀m,x≠.mt m) {K K':List It}{d d':D}(h:me L K d K' d'):K'=[]->∀(X Y:List It),K=X++.fl x :: Y->d.e=0->cB L d=none->d'.e≠0:=by
 induction h with
 |refl=>intro e X Y u;rw[e]at u;cases X<;>cases u
 |step hr ih=>
  rename_i i K K' d d'
  intro e X Y u I G;obtain⟨a,b,c⟩:=A7 (i:=i) I G
  rcases c with⟨c1,c2⟩|c
  ·cases X with
   |nil=>
    simp at u;obtain⟨rfl,rfl⟩:=u
    exfalso
    have H:dst L (.fl x) d=([],eu L (qn L d (λt=>x.takes t)) d):=by
     cases x with
     |mt m=>exact absurd rfl (M m)
     |_=>rfl
    rw[H]at c1;have J:qn L d (λt=>x.takes t)=false:=by unfold qn;rw[G];rfl
    rw[J]at c1;exact absurd (oA c1).1 (by decide)
   |cons j X=>
    simp at u;obtain⟨rfl,rfl⟩:=u;exact ih e ((dst L i d).1++X) Y (by simp) c1 c2
  ·have:=kw hr (by rw[c];decide);rw[this,c]
   decide
def rH (N:Nat->List Ev) (T:List Tv) (K:List It) (p:List (Int × Nat)) (s:Nat) (v:List Ev):Prop:=∀R,∃lst,me (T++R) (cd++[.lv 1]) (dG 1 (tL N)) K ⟨T.length,p,s,lst,0,v,N⟩
def rq (N:Nat->List Ev):rH N [] (cd++[.lv 1]) [(1,1)] 1 [⟨1,1,av⟩]:=λR=>⟨[],.refl⟩
section
variable {N:Nat->List Ev} {T R:List Tv} {K:List It} {p:List (Int × Nat)} {s:Nat} {l:List (Int × Nat)} {v:List Ev} {t:Tv} {dz:D}
def sO:cB (T++t :: R) ⟨T.length,p,s,l,0,v,N⟩=some t:=by simp[cB]
def Av:cB (T++[]) ⟨T.length,p,s,l,0,v,N⟩=none:=by simp[cB]
def x9 (h:Rb L cd (dG 1 (tL N)) dz) {K:List It}{d:D}(u:me L (cd++[.lv 1]) (dG 1 (tL N)) K d):me L K d [] (mY 1 dz):=u.det ((h [.lv 1]).trans (.step .refl))
def pN {n:Int}{d:D}:(mY n d).e=d.e/\(mY n d).i=d.i/\(mY n d).l=d.l:=by unfold mY;split<;>exact⟨rfl,rfl,rfl⟩
def Nj (h:rH N T K p s v) (Q:nw K=true) {k:Nat}{n:Int}{E:List Ev}(O:Ru t k K n E .no) (M:Rb (T++t :: R) cd (dG 1 (tL N)) dz):dz.i=T.length/\(dz.e=120\/dz.e=0):=by
 obtain⟨S,I⟩:=h (t :: R);obtain⟨K',d2,h2,hi,u⟩:=(Qv (L:=T++t :: R) O _ sO Q).2 rfl;have G:=x9 M (I.trans h2);obtain⟨c1,c2,c3⟩:=pN (n:=1) (d:=dz)
 rcases u with u|⟨rfl,J⟩
 ·have H:=kw G (by rw[u];decide);exact⟨by rw[<-c2,H,hi],.inl (by rw[<-c1,H,u])⟩
 ·cases G;exact⟨by rw[<-c2,hi],.inr (by rw[<-c1];exact J)⟩
def zG {x:Fl}(H:x.takes t=true):iW (T++t :: R) x ⟨T.length,p,s,l,0,v,N⟩=if 1000<p.length then⟨T.length,p,s,l,122,v,N⟩else⟨T.length+1,p,s,if R=[]then p else l,0,v++⟨2,0,t⟩ :: N T.length,N⟩:=by
 have G:qn (T++t :: R) ⟨T.length,p,s,l,0,v,N⟩ (λt=>x.takes t)=true:=by unfold qn;rw[sO];exact H
 unfold iW eu;rw[G];simp only[TU]
 split
 ·rfl
 ·have:(T.length+1=(T++t :: R).length)↔R=[]:=by
   rw[IO,List.length_cons];constructor
   ·intro h;exact R6 (by omega)
   ·intro h;rw[h];simp
  have u:(T++t :: R)[T.length]?.getD av=t:=by simp
  simp only[this,u]
def wX (h:rH N T K p s v) (hw:nw K=true) {k:Nat}{n m:Int}{E o:List Ev}{H:List It}(hr:Ru t k K n E (.yes H m (E++o))) :
  nw H=true/\(nC o (p,s)).1.map (·.1)=(bV H).reverse/\((nC o (p,s)).1.length<=1000->rH N (T++[t]) H (nC o (p,s)).1 (nC o (p,s)).2 (v++o++⟨2,0,t⟩ :: N T.length))/\(1000<(nC o (p,s)).1.length->∀R dz,Rb (T++t :: R) cd (dG 1 (tL N)) dz->dz.e=122/\dz.i=T.length):=by
 have S:∀R,∃x u,me (T++t :: R) (cd++[.lv 1]) (dG 1 (tL N)) (.fl x :: H) ⟨T.length,(nC o (p,s)).1,(nC o (p,s)).2,u,0,v++o,N⟩/\(∀m,x≠Fl.mt m)/\x.takes t=true:=by
  intro R;obtain⟨u,h1⟩:=h (t :: R);obtain⟨_,x,o',e1,O,G,I⟩:=(Qv (L:=T++t :: R) hr _ sO hw).1 _ _ _ rfl;have Q:o'=o:=TX e1.symm;subst Q;exact⟨x,u,h1.trans I,O,G⟩
 refine⟨?_,?_,?_,?_⟩
 ·exact((Qv (L:=T++[t]) hr ⟨T.length,p,s,[],0,v,N⟩ sO hw).1 _ _ _ rfl).1
 ·obtain⟨x,u,I,O,_⟩:=S [];obtain⟨_,J⟩:=oQ I rfl;obtain⟨q,e1,Q⟩:=J [] [(1,1)] rfl rfl;simp at e1;rw[e1];exact Q
 ·intro aa R;obtain⟨x,u,I,O,G⟩:=S R;have J:=I.trans (iC O H);have M:=zG (N:=N) (T:=T) (R:=R) (v:=v++o) G (p:=(nC o (p,s)).1) (s:=(nC o (p,s)).2) (l:=u);rw[Eq (by omega)]at M;unfold iW at M;rw[M]at J;refine⟨if R=[]then(nC o (p,s)).1 else u,?_⟩;rw[RW T,IO];exact J
 ·intro Y R dz hb;obtain⟨x,u,I,O,G⟩:=S R;have J:=I.trans (iC O H);have M:=zG (N:=N) (T:=T) (R:=R) (v:=v++o) G (p:=(nC o (p,s)).1) (s:=(nC o (p,s)).2) (l:=u);rw[Or Y]at M;unfold iW at M;rw[M]at J;have Z:=kw (x9 hb J) (by show(122:Int)≠0;decide);obtain⟨c1,c2,c3⟩:=pN (n:=1) (d:=dz);exact⟨by rw[<-c1,Z],by rw[<-c2,Z]⟩
def J0 (h:me L [] d [] d'):d'=d:=by cases h;rfl
def IX (K:List It):Prop:=K=[.lv 1]\/∃X,K=X++[.fl (.wd 6 [⟨#[46]⟩]),.lv 1]
def iQ:IX (cd++[.lv 1]):=.inr ⟨[.fl (.wd 2 [⟨#[112,114,111,103,114,97,109]⟩]),.fl (.nm),.fl (.wd 6 [⟨#[59]⟩]),.fl (.mt .block)],rfl⟩
def sh {t:Tv}{K:List It}{R:Ro}(h:Ru t k K n E R):∀{L:List It}{m:Int}{F:List Ev},R=.yes L m F->IX K->IX L:=by
 induction h with
 |nil=>intro L m F h;cases h
 |ref _=>intro L m F h;cases h
 |tk hs=>
  rename_i i K n E
  intro L m F h G;cases h
  rcases G with G|⟨X,u⟩
  ·simp at G;obtain⟨rfl,rfl⟩:=G;cases hs
  ·cases X with
   |nil=>simp at u;exact .inl u.2
   |cons j X=>simp at u;exact .inr ⟨X,u.2⟩
 |go hs hr ih=>
  rename_i k i K n d E o r R
  intro L m F h G
  rcases G with G|⟨X,u⟩
  ·simp at G;obtain⟨rfl,rfl⟩:=G;cases hs;cases hr;cases h
  ·cases X with
   |nil=>
    simp at u;obtain⟨rfl,rfl⟩:=u;simp only[It.step,Fl.step]at hs
    split at hs<;>cases hs
   |cons j X=>
    simp at u;obtain⟨rfl,rfl⟩:=u;exact ih h (.inr ⟨r++X,by simp⟩)
def lJ (h:rH N T K p s v) (I:IX K) (Q:Rb T cd (dG 1 (tL N)) dz):dz.i=T.length/\(K.length=1->dz.e=0/\dz.v=v)/\(K.length≠1->dz.e=121):=by
 obtain⟨S,O⟩:=h [];have H:Rb (T++[]) cd (dG 1 (tL N)) dz:=by rw[Sg];exact Q
 have u:=x9 H O;obtain⟨a,b,c⟩:=J1 u rfl Av;obtain⟨c1,c2,c3⟩:=pN (n:=1) (d:=dz);rw[c2]at b;refine⟨b,?_⟩
 rcases I with rfl|⟨X,rfl⟩
 ·refine⟨λ_=>?_,λh=>absurd rfl h⟩;cases u with
  |step h4=>
   have J:=J0 h4;have M:dz.e=0:=by rw[<-c1,J];rfl
   refine⟨M,?_⟩;have G:=Sh D.v J;unfold mY at G;rw[Or M]at G;exact List.append_cancel_right G
 ·refine⟨λh=>by simp at h,λ_=>?_⟩;have:=Cs aB u rfl X [.lv 1] rfl rfl Av;rw[c1]at this c;exact c.resolve_left this
end
