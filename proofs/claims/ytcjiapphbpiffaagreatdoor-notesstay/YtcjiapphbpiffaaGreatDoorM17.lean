import Derived.Test.YtcjiapphbpiffaaGreatDoorM01
set_option linter.unusedVariables false
set_option linter.unusedSimpArgs false
namespace Go.Proofs.YtcjiapphbpiffaaGreatDoor
open Go.RowKit
variable {L:List Tv}{t:Tv}{n:Int}{ts:List ByteArray}{o:Option Tv}
inductive M|block|variables|constants|procedure|params|param|typed|kind|member|body|statement|expr|rel|sum|term|factor|object|index|selection|args|list
deriving DecidableEq
inductive Dk|declaration|bracket|detail
deriving DecidableEq
inductive Fl|wd (k:Int) (ts:List ByteArray)|nm|cs|mt (m:M)
inductive Pk|fn (d:Dk)|row (r:List Fl)|ex (m:M)
inductive It|fl (x:Fl)|lv (n:Int)|once (p:Pk)|again (p:Pk)|all (r:List Fl)
theorem uC {a b:ByteArray}(h:a.toList=b.toList):a=b:=by
 rw [Va,Va] at h;have:=UU.1 h;cases a;cases b;simp_all
theorem Hq (a b:ByteArray):(a.toList == b.toList)=decide (a=b):=by
 by_cases e:a=b
 ·subst e;simp
 ·have:¬a.toList=b.toList:=fun h=>e (uC h)
  simp [e,this]
def kS (l:List ByteArray) (s:ByteArray):Bool:=l.any (fun x=>decide (s=x))
def Tv.is (t:Tv) (l:List UInt8):Bool:=t.t.toList == l
def Fl.takes (t:Tv):Fl->Bool
 |.wd k ts=>t.k == k && kS ts t.t
 |.nm=>t.k == 1
 |.cs=>t.k == 3 || t.k == 4 || t.k == 5
 |.mt _=>false
def cL (t:Tv):Int:=
 if t.k == 6 && t.is [45] then 25 else if t.k == 2 && t.is [110,111,116] then 26 else if t.k == 6 && t.is [40] then 27
 else if t.k == 3 || t.k == 4 || t.k == 5 then 32 else if t.k == 1 then 28 else 0
def Dk.pick (t:Tv):Dk->Option M
 |.declaration=>if t.is [118,97,114] then some .variables else if t.is [99,111,110,115,116] then some .constants else if t.is [112,114,111,99] then some .procedure else none
 |.bracket=>if t.is [40] then some .params else none
 |.detail=>if t.is [91] then some .index else if t.is [46] then some .selection else if t.is [40] then some .args else none
def Pk.pick (t:Tv):Pk->Option It
 |.fn d=>(d.pick t).map (fun m=>.fl (.mt m))
 |.row r=>if (r.head?.elim false (fun x=>x.takes t)) then some (.all r) else none
 |.ex m=>if cL t == 0 then none else some (.fl (.mt m))
def Iy (p:Pk):Option It->List It
 |none=>[]
 |some i=>[i,.again p]
inductive Gw|ref|ex (r:List It)|op (n:Int) (r:List It)
def co (s:ByteArray):Gw:=
 if s.toList == [115,107,105,112] then .op 13 [.fl (.wd 2 [s])]
 else if s.toList == [105,102] then .op 15 [.fl (.wd 2 [s]),.fl (.mt .expr),.fl (.wd 2 [⟨#[116,104,101,110]⟩]),.fl (.mt .body),.again (.row [.wd 2 [⟨#[101,108,105,102]⟩],.mt .expr,.wd 2 [⟨#[116,104,101,110]⟩],.mt .body]),.once (.row [.wd 2 [⟨#[101,108,115,101]⟩],.mt .body]),.fl (.wd 2 [⟨#[101,110,100]⟩])]
 else if s.toList == [119,104,105,108,101] then .op 16 [.fl (.wd 2 [s]),.fl (.mt .expr),.fl (.wd 2 [⟨#[100,111]⟩]),.fl (.mt .body),.fl (.wd 2 [⟨#[101,110,100]⟩])]
 else if s.toList == [102,111,114] then .op 17 [.fl (.wd 2 [s]),.fl (.nm),.fl (.wd 6 [⟨#[58,61]⟩]),.fl (.mt .expr),.fl (.wd 2 [⟨#[116,111]⟩]),.fl (.mt .expr),.fl (.wd 2 [⟨#[100,111]⟩]),.fl (.mt .body),.fl (.wd 2 [⟨#[101,110,100]⟩])]
 else if s.toList == [114,101,112,101,97,116] then .op 18 [.fl (.wd 2 [s]),.fl (.mt .body),.fl (.wd 2 [⟨#[117,110,116,105,108]⟩]),.fl (.mt .expr)]
 else if s.toList == [114,101,116,117,114,110] then .op 19 [.fl (.wd 2 [s]),.once (.ex .expr)]
 else if s.toList == [98,101,103,105,110] then .op 20 [.fl (.wd 2 [s]),.fl (.mt .body),.fl (.wd 2 [⟨#[101,110,100]⟩])]
 else .ref
def M.row (t:Tv):M->Gw
 |.block=>.op 2 [.again (.fn .declaration),.fl (.wd 2 [⟨#[98,101,103,105,110]⟩]),.fl (.mt .body),.fl (.wd 2 [⟨#[101,110,100]⟩])]
 |.variables=>.op 3 [.fl (.wd 2 [⟨#[118,97,114]⟩]),.fl (.mt .typed),.fl (.wd 6 [⟨#[59]⟩])]
 |.constants=>.op 4 [.fl (.wd 2 [⟨#[99,111,110,115,116]⟩]),.fl (.nm),.fl (.wd 6 [⟨#[61]⟩]),.fl (.mt .expr),.fl (.wd 6 [⟨#[59]⟩])]
 |.params=>.op 6 [.fl (.wd 6 [⟨#[40]⟩]),.fl (.mt .param),.again (.row [.wd 6 [⟨#[59]⟩],.mt .param]),.fl (.wd 6 [⟨#[41]⟩])]
 |.param=>.op 7 [.fl (.mt .typed)]
 |.typed=>.ex [.fl (.nm),.again (.row [.wd 6 [⟨#[44]⟩],.nm]),.fl (.wd 6 [⟨#[58]⟩]),.fl (.mt .kind)]
 |.member=>.op 11 [.fl (.mt .typed)]
 |.body=>.op 12 [.fl (.mt .statement),.again (.row [.wd 6 [⟨#[59]⟩],.mt .statement])]
 |.expr=>.op 21 [.fl (.mt .rel),.again (.row [.wd 2 [⟨#[97,110,100]⟩,⟨#[111,114]⟩],.mt .rel])]
 |.rel=>.op 22 [.fl (.mt .sum),.once (.row [.wd 6 [⟨#[61]⟩,⟨#[35]⟩,⟨#[60]⟩,⟨#[60,61]⟩,⟨#[62]⟩,⟨#[62,61]⟩],.mt .sum])]
 |.sum=>.op 23 [.fl (.mt .term),.again (.row [.wd 6 [⟨#[43]⟩,⟨#[45]⟩],.mt .term])]
 |.term=>.op 24 [.fl (.mt .factor),.again (.row [.wd 6 [⟨#[42]⟩,⟨#[47]⟩,⟨#[37]⟩],.mt .factor])]
 |.object=>.op 28 [.fl (.nm),.again (.fn .detail)]
 |.index=>.op 29 [.fl (.wd 6 [⟨#[91]⟩]),.fl (.mt .list),.fl (.wd 6 [⟨#[93]⟩])]
 |.selection=>.op 30 [.fl (.wd 6 [⟨#[46]⟩]),.fl (.nm)]
 |.args=>.op 31 [.fl (.wd 6 [⟨#[40]⟩]),.once (.ex .list),.fl (.wd 6 [⟨#[41]⟩])]
 |.list=>.ex [.fl (.mt .expr),.again (.row [.wd 6 [⟨#[44]⟩],.mt .expr])]
 |.procedure=>.op 5 [.fl (.wd 2 [⟨#[112,114,111,99]⟩]),.fl (.nm),.once (.fn .bracket),.once (.row [.wd 6 [⟨#[58]⟩],.mt .kind]),.fl (.wd 6 [⟨#[59]⟩]),.fl (.mt .block),.fl (.wd 6 [⟨#[59]⟩])]
 |.kind=>if t.k == 1 then .op 8 [.fl .nm] else if t.is [97,114,114,97,121] then .op 9 [.fl (.wd 2 [⟨#[97,114,114,97,121]⟩]),.fl (.wd 6 [⟨#[91]⟩]),.fl (.mt .expr),.fl (.wd 6 [⟨#[46,46]⟩]),.fl (.mt .expr),.fl (.wd 6 [⟨#[93]⟩]),.fl (.wd 2 [⟨#[111,102]⟩]),.fl (.mt .kind)] else if t.is [114,101,99,111,114,100] then .op 10 [.fl (.wd 2 [⟨#[114,101,99,111,114,100]⟩]),.fl (.mt .member),.again (.row [.wd 6 [⟨#[59]⟩],.mt .member]),.fl (.wd 2 [⟨#[101,110,100]⟩])] else .ref
 |.statement=>if t.k == 1 then .op 14 [.fl (.mt .object),.once (.row [.wd 6 [⟨#[58,61]⟩],.mt .expr])] else co t.t
 |.factor=>if cL t == 25 then .op 25 [.fl (.wd 6 [⟨#[45]⟩]),.fl (.mt .factor)] else if cL t == 26 then .op 26 [.fl (.wd 2 [⟨#[110,111,116]⟩]),.fl (.mt .factor)] else if cL t == 27 then .op 27 [.fl (.wd 6 [⟨#[40]⟩]),.fl (.mt .expr),.fl (.wd 6 [⟨#[41]⟩])] else if cL t == 32 then .op 32 [.fl (.cs)] else if cL t == 28 then .ex [.fl (.mt .object)] else .ref
def ci:List It:=[.fl (.wd 2 [⟨#[112,114,111,103,114,97,109]⟩]),.fl (.nm),.fl (.wd 6 [⟨#[59]⟩]),.fl (.mt .block),.fl (.wd 6 [⟨#[46]⟩])]
inductive Sr|tk|ref|go (d:Int) (o:List Ev) (r:List It)
def Gw.sr:Gw->Sr
 |.ref=>.ref
 |.ex r=>.go 0 [] r
 |.op nd r=>.go 1 [⟨1,nd,aB⟩] (r++[.lv nd])
def Fl.step (t:Tv):Fl->Sr
 |.mt m=>(M.row t m).sr
 |x=>if x.takes t then .tk else .ref
def It.step (t:Tv):It->Sr
 |.fl x=>x.step t
 |.lv n=>.go (-1) [⟨3,n,aB⟩] []
 |.once p=>.go 0 [] (Pk.pick t p).toList
 |.again p=>.go 0 [] (Iy p (Pk.pick t p))
 |.all r=>.go 0 [] (r.map It.fl)
def Mk (r:List Fl):Prop:=(∃k ts rest,r=Fl.wd k ts :: rest)/\r.length<=8
def Pk.wf:Pk->Prop
 |.row r=>Mk r
 |_=>True
def It.wf:It->Prop
 |.once p=>p.wf
 |.again p=>p.wf
 |.all r=>Mk r
 |_=>True
def j8 (K:List It):Prop:=∀i∈K,i.wf
def bM:List It->List Int
 |[]=>[]
 |.lv n :: K=>n :: bM K
 |_ :: K=>bM K
theorem bO (a b:List It):bM (a++b)=bM a++bM b:=by
 induction a with
 |nil=>rfl
 |cons i r ih=>cases i <;> simp [bM,ih]
theorem kb (r:List Fl):bM (r.map It.fl)=[]:=by
 induction r with
 |nil=>rfl
 |cons x r ih=>simp [bM,ih]
theorem M2 (r:List Fl):j8 (r.map It.fl):=by
 intro i C;obtain ⟨x,_,rfl⟩:=UV.1 C
 trivial
theorem fO {a b:List It}(C:j8 a) (F:j8 b):j8 (a++b):=fun i G=>(To.1 G).elim (C i) (F i)
theorem ik:j8 []:=fun _ h=>by cases h
theorem kq {i:It}{K:List It}(F:i.wf) (C:j8 K):j8 (i :: K):=fun j G=>(Tt.1 G).elim (fun e=>e ▸ F) (C j)
def Gw.ok:Gw->Prop
 |.ref=>True
 |.ex r=>j8 r/\r.length<=10/\bM r=[]
 |.op nd r=>j8 r/\r.length<=10/\bM r=[]/\2<=nd/\nd<=32
theorem oE (s:ByteArray):(co s).ok:=by
 unfold co
 repeat' split
 all_goals simp [Gw.ok,j8,It.wf,Pk.wf,Mk,bM]
theorem io (t:Tv) (m:M):(M.row t m).ok:=by
 cases m <;> simp only [M.row]
 case statement=>
  split
  ·simp [Gw.ok,j8,It.wf,Pk.wf,Mk,bM]
  ·exact oE _
 all_goals (repeat' split)
 all_goals simp [Gw.ok,j8,It.wf,Pk.wf,Mk,bM]
theorem nN {p:Pk}(C:p.wf) {i:It}(h:Pk.pick t p=some i):i.wf/\bM [i]=[]:=by
 cases p with
 |fn d=>
  simp only [Pk.pick,Ts] at h;obtain ⟨m,_,rfl⟩:=h;exact ⟨trivial,rfl⟩
 |row r=>
  simp only [Pk.pick] at h
  split at h
  ·cases h;exact ⟨C,rfl⟩
  ·cases h
 |ex m=>
  simp only [Pk.pick] at h
  split at h
  ·cases h
  ·cases h;exact ⟨trivial,rfl⟩
theorem fQ {t:Tv}{i:It}{d:Int}{o:List Ev}{r K:List It}(h:It.step t i=.go d o r) (H:i.wf) :
  j8 r/\r.length<=11/\o.length<=1/\((bM (r++K)).length:Int)=(bM (i :: K)).length+d:=by
 cases i with
 |fl x=>
  have I:∃m,x=.mt m:=by
   cases x with
   |mt m=>exact ⟨m,rfl⟩
   |_=>simp only [It.step,Fl.step] at h;split at h <;> cases h
  obtain ⟨m,rfl⟩:=I;have F:=io t m;simp only [It.step,Fl.step] at h;cases C:M.row t m with
  |ref=>rw [C] at h;cases h
  |ex r'=>
   rw [C] at h F;cases h;refine ⟨F.1,by have:=F.2.1;omega,by simp,?_⟩;rw [bO,F.2.2];simp [bM]
  |op nd r'=>
   rw [C] at h F;cases h;refine ⟨fO F.1 (kq trivial ik),by have:=F.2.1;simp;omega,by simp,?_⟩;rw [bO,bO,F.2.2.1];simp [bM]
 |lv n=>
  cases h;refine ⟨ik,by simp,by simp,?_⟩;simp [bM];omega
 |once p=>
  simp only [It.step] at h;cases G:Pk.pick t p with
  |none=>rw [G] at h;cases h;exact ⟨ik,by simp,by simp,by simp [bM]⟩
  |some j=>
   rw [G] at h;cases h;have:=nN H G;refine ⟨kq this.1 ik,by simp,by simp,?_⟩;show ((bM ([j]++K)).length:Int)=_;rw [bO,this.2];simp [bM]
 |again p=>
  simp only [It.step] at h;cases G:Pk.pick t p with
  |none=>rw [G] at h;cases h;exact ⟨ik,by simp [Iy],by simp,by simp [bM,Iy]⟩
  |some j=>
   rw [G] at h;cases h;have:=nN H G;refine ⟨kq this.1 (kq H ik),by simp [Iy],by simp,?_⟩;show ((bM ([j]++([.again p]++K))).length:Int)=_;rw [bO,this.2];simp [bM]
 |all r'=>
  cases h;refine ⟨M2 r',by have:=H.2;simp;omega,by simp,?_⟩;rw [bO,kb];simp [bM]
inductive Ro|no|yes (K:List It) (n:Int) (E:List Ev)
inductive Ru (t:Tv):Nat->List It->Int->List Ev->Ro->Prop
 |nil {n:Int} {E:List Ev}:Ru t 0 [] n E .no
 |ref {i:It} {K:List It} {n:Int} {E:List Ev}:It.step t i=.ref->Ru t 0 (i :: K) n E .no
 |tk {i:It} {K:List It} {n:Int} {E:List Ev}:It.step t i=.tk->Ru t 0 (i :: K) n E (.yes K n E)
 |go {k:Nat} {i:It} {K:List It} {n d:Int} {E o:List Ev} {r:List It} {R:Ro}:It.step t i=.go d o r->Ru t k (r++K) (n+d) (E++o) R->Ru t (k+1) (i :: K) n E R
def fM (t:Tv) (c:Nat) (i:It):Prop:=∀K n E,∃k R,k<=c/\Ru t k (i :: K) n E R
theorem jq (t:Tv) (x:Fl) (F:∀m,x≠.mt m) (c:Nat):fM t c (.fl x):=by
 intro K n E
 have h:It.step t (.fl x)=if x.takes t then .tk else .ref:=by
  cases x with
  |mt m=>exact absurd rfl (F m)
  |_=>rfl
 by_cases C:x.takes t=true
 ·rw [IO C] at h;exact ⟨0,_,SW _,.tk h⟩
 ·rw [Eq C] at h;exact ⟨0,_,SW _,.ref h⟩
theorem ce {t:Tv}{i j:It}{d:Int}{o:List Ev}{r:List It}{c:Nat}(h:It.step t i=.go d o (j :: r)) (F:fM t c j):fM t (c+1) i:=by
 intro K n E;obtain ⟨k,R,G,C⟩:=F (r++K) (n+d) (E++o);exact ⟨k+1,R,by omega,.go h C⟩
theorem fM.up {c C:Nat}{i:It}(h:fM t c i) (hc:c<=C):fM t C i:=by
 intro K n E;obtain ⟨k,R,G,F⟩:=h K n E;exact ⟨k,R,by omega,F⟩
theorem EB {i:It}(h:It.step t i=.ref) (c:Nat):fM t c i:=fun K n E=>⟨0,_,SW _,.ref h⟩
theorem aC {k:Int}:∀m,Fl.wd k ts≠.mt m:=fun m h=>by cases h
theorem df:∀m,Fl.nm≠.mt m:=fun m h=>by cases h
theorem FO:∀m,Fl.cs≠.mt m:=fun m h=>by cases h
theorem oY {t:Tv}{i:It}{d:Int}{o:List Ev}{x:Fl}{r:List It}(h:It.step t i=.go d o (.fl x :: r)) (C:∀m,x≠.mt m):fM t 1 i:=ce h (jq t x C 0)
theorem iG (t:Tv):fM t 1 (.fl (.mt .object)):=oY rfl df
theorem j9 (t:Tv):fM t 1 (.fl (.mt .typed)):=oY rfl df
theorem oZ {t:Tv}{m:M}{c:Nat}(R:Gw) (G:M.row t m=R) (h:R=.ref\/(∃x r,(∀m,x≠Fl.mt m)/\(R=.ex (.fl x :: r)\/∃nd,R=.op nd (.fl x :: r)))):fM t 1 (.fl (.mt m)):=by
 have C:It.step t (.fl (.mt m))=R.sr:=by simp only [It.step,Fl.step,G]
 rcases h with rfl|⟨x,r,F,rfl|⟨nd,rfl⟩⟩
 ·exact EB C 1
 ·exact oY C F
 ·exact oY (d:=1) (o:=[⟨1,nd,aB⟩]) (x:=x) (r:=r++[It.lv nd]) C F
theorem mM (t:Tv):fM t 2 (.fl (.mt .factor)):=by
 by_cases h:cL t=28
 ·have G:It.step t (.fl (.mt .factor))=.go 0 [] [.fl (.mt .object)]:=by simp [It.step,Fl.step,M.row,h,Gw.sr]
  exact ce G (iG t)
 ·refine (oZ (c:=0) _ rfl ?_).up (by omega);have C:(cL t == 28)=false:=by simpa using h
  simp only [M.row,C,Tu,Ui]
  repeat' split
  all_goals first
   |exact .inl rfl
   |exact .inr ⟨_,_,aC,.inr ⟨_,rfl⟩⟩
   |exact .inr ⟨_,_,FO,.inr ⟨_,rfl⟩⟩
   | (rename_i F;simp at F)
theorem BX (t:Tv):fM t 1 (.fl (.mt .kind)):=by
 refine oZ (c:=0) _ rfl ?_;simp only [M.row]
 repeat' split
 all_goals first
  |exact .inl rfl
  |exact .inr ⟨_,_,aC,.inr ⟨_,rfl⟩⟩
  |exact .inr ⟨_,_,df,.inr ⟨_,rfl⟩⟩
theorem iF (t:Tv):fM t 2 (.fl (.mt .statement)):=by
 by_cases h:(t.k == 1)=true
 ·have G:It.step t (.fl (.mt .statement))=.go 1 [⟨1,14,aB⟩] ([.fl (.mt .object),.once (.row [.wd 6 [⟨#[58,61]⟩],.mt .expr])]++[.lv 14]):=by simp [It.step,Fl.step,M.row,h,Gw.sr]
  exact ce (r:=[.once (.row [.wd 6 [⟨#[58,61]⟩],.mt .expr]),.lv 14]) G (iG t)
 ·refine (oZ (c:=0) _ rfl ?_).up (by omega);have C:(t.k == 1)=false:=by simpa using h
  simp only [M.row,C,Tu,Ui,co]
  repeat' split
  all_goals first
   |exact .inl rfl
   |exact .inr ⟨_,_,aC,.inr ⟨_,rfl⟩⟩
   | (rename_i F;simp at F)
theorem rc (t:Tv):fM t 3 (.fl (.mt .term)):=ce rfl (mM t)
theorem vo (t:Tv):fM t 4 (.fl (.mt .sum)):=ce rfl (rc t)
theorem vq (t:Tv):fM t 5 (.fl (.mt .rel)):=ce rfl (vo t)
theorem ri (t:Tv):fM t 6 (.fl (.mt .expr)):=ce rfl (vq t)
theorem eE (t:Tv) (m:M) (h:m=.variables\/m=.constants\/m=.procedure\/m=.params\/m=.index\/m=.selection\/m=.args):fM t 1 (.fl (.mt m)):=by
 rcases h with rfl|rfl|rfl|rfl|rfl|rfl|rfl <;> exact oY rfl aC
theorem ov {d:Dk}{m:M}(h:d.pick t=some m):m=.variables\/m=.constants\/m=.procedure\/m=.params\/m=.index\/m=.selection\/m=.args:=by
 cases d <;> simp only [Dk.pick] at h <;> repeat' (split at h)
 all_goals first|(cases h;done)|(cases h;simp)
theorem x8 (t:Tv):fM t 4 (.fl (.mt .block)):=by
 intro K n E;have G:It.step t (.fl (.mt .block))=.go 1 [⟨1,2,aB⟩] (.again (.fn .declaration) :: .fl (.wd 2 [⟨#[98,101,103,105,110]⟩]) :: [.fl (.mt .body),.fl (.wd 2 [⟨#[101,110,100]⟩]),.lv 2]):=rfl;cases F:Dk.pick t .declaration with
 |none=>
  have C:It.step t (.again (.fn .declaration))=.go 0 [] []:=by simp [It.step,Pk.pick,F,Iy]
  obtain ⟨k,R,I,H⟩:=jq t (.wd 2 [⟨#[98,101,103,105,110]⟩]) aC 0 ([.fl (.mt .body),.fl (.wd 2 [⟨#[101,110,100]⟩]),.lv 2]++K) (n+1+0) (E++[⟨1,2,aB⟩]++[]);exact ⟨k+1+1,R,by omega,.go G (.go C H)⟩
 |some m=>
  have C:It.step t (.again (.fn .declaration))=.go 0 [] (.fl (.mt m) :: [.again (.fn .declaration)]):=by simp [It.step,Pk.pick,F,Iy]
  exact ((ce G (ce C (eE t m (ov F)))).up (by omega)) K n E
theorem sH (t:Tv) (m:M):fM t 8 (.fl (.mt m)):=by
 cases m with
 |block=>exact (x8 t).up (by omega)
 |variables=>exact (eE t _ (by simp)).up (by omega)
 |constants=>exact (eE t _ (by simp)).up (by omega)
 |procedure=>exact (eE t _ (by simp)).up (by omega)
 |params=>exact (eE t _ (by simp)).up (by omega)
 |param=>exact (ce rfl (j9 t)).up (by omega)
 |typed=>exact (j9 t).up (by omega)
 |kind=>exact (BX t).up (by omega)
 |member=>exact (ce rfl (j9 t)).up (by omega)
 |body=>exact (ce rfl (iF t)).up (by omega)
 |statement=>exact (iF t).up (by omega)
 |expr=>exact (ri t).up (by omega)
 |rel=>exact (vq t).up (by omega)
 |sum=>exact (vo t).up (by omega)
 |term=>exact (rc t).up (by omega)
 |factor=>exact (mM t).up (by omega)
 |object=>exact (iG t).up (by omega)
 |index=>exact (eE t _ (by simp)).up (by omega)
 |selection=>exact (eE t _ (by simp)).up (by omega)
 |args=>exact (eE t _ (by simp)).up (by omega)
 |list=>exact (ce rfl (ri t)).up (by omega)
theorem rf (t:Tv) (x:Fl):fM t 8 (.fl x):=by
 cases x with
 |mt m=>exact sH t m
 |_=>exact jq t _ (fun m h=>by cases h) 8
theorem jp {p:Pk}(C:p.wf) {i:It}(h:Pk.pick t p=some i):fM t 9 i:=by
 cases p with
 |fn d=>
  simp only [Pk.pick,Ts] at h;obtain ⟨m,_,rfl⟩:=h;exact (sH t m).up (by omega)
 |row r=>
  simp only [Pk.pick] at h
  split at h
  ·cases h;obtain ⟨⟨k,ts,rest,rfl⟩,_⟩:=C;exact (ce (r:=rest.map It.fl) rfl (jq t (.wd k ts) aC 0)).up (by omega)
  ·cases h
 |ex m=>
  simp only [Pk.pick] at h
  split at h
  ·cases h
  ·cases h;exact (sH t m).up (by omega)
theorem Ml (t:Tv):∀(K:List It),j8 K->∀n E,∃k R,k<=K.length+20/\Ru t k K n E R
 |[],_,n,E=>⟨0,_,SW _,.nil⟩
 |i :: K,hw,n,E=>by
  have H:i.wf:=hw i (S4 ..);have I:j8 K:=fun j J=>hw j (SZ _ J)
  have pop:∀d o,It.step t i=.go d o []->∃k R,k<=(i :: K).length+20/\Ru t k (i :: K) n E R:=by
   intro d o h;obtain ⟨k,R,M,G⟩:=Ml t K I (n+d) (E++o);exact ⟨k+1,R,by simp;omega,.go h G⟩
  have C:∀c,c<=20->fM t c i->∃k R,k<=(i :: K).length+20/\Ru t k (i :: K) n E R:=by
   intro c O h;obtain ⟨k,R,M,G⟩:=h K n E;exact ⟨k,R,by omega,G⟩
  cases i with
  |fl x=>exact C 8 (by omega) (rf t x)
  |lv nd=>exact pop _ _ rfl
  |once p=>
   cases F:Pk.pick t p with
   |none=>exact pop 0 [] (by simp [It.step,F])
   |some j=>exact C 10 (by omega) (ce (r:=[]) (by simp [It.step,F];exact ⟨rfl,rfl⟩) (jp H F))
  |again p=>
   cases F:Pk.pick t p with
   |none=>exact pop 0 [] (by simp [It.step,F,Iy])
   |some j=>exact C 10 (by omega) (ce (r:=[.again p]) (by simp [It.step,F,Iy];exact ⟨rfl,rfl⟩) (jp H F))
  |all r=>
   obtain ⟨⟨k,ts,rest,rfl⟩,_⟩:=H;exact C 1 (by omega) (ce (r:=rest.map It.fl) rfl (jq t (.wd k ts) aC 0))
structure D where
 i:Nat
 p:List (Int × Nat)
 s:Nat
 l:List (Int × Nat)
 e:Int
 v:List Ev
 N:Nat->List Ev
def cZ (L:List Tv) (d:D):Option Tv:=if d.e=0 then L[d.i]? else none
def qn (L:List Tv) (d:D) (f:Tv->Bool):Bool:=(cZ L d).elim false f
def eI (n:Int) (d:D):D:=if d.e=0 then { d with p:=d.p++[(n,d.s+1)],s:=d.s+1,v:=d.v++[⟨1,n,aB⟩] } else d
def nr (n:Int) (d:D):D:=if d.e=0 then { d with p:=d.p.dropLast,v:=d.v++[⟨3,n,aB⟩] } else d
def fj (L:List Tv) (r:Bool) (d:D):D:=
 if r then (if 1000<d.p.length then { d with e:=122 } else { d with i:=d.i+1,l:=if d.i+1=L.length then d.p else d.l,v:=d.v++⟨2,0,L[d.i]?.getD aB⟩ :: d.N d.i })
 else if d.e=0 then (if d.i<L.length then { d with e:=120 } else { d with e:=121 }) else d
def wk (k:Int) (s:ByteArray) (t:Tv):Bool:=t.k == k && decide (t.t=s)
def Dk.kd:Dk->Int
 |.declaration=>2
 |_=>6
def cR (o:Option Tv):M->Gw
 |.kind=>if o.elim false (wk 2 ⟨#[97,114,114,97,121]⟩) then .op 9 [.fl (.wd 2 [⟨#[97,114,114,97,121]⟩]),.fl (.wd 6 [⟨#[91]⟩]),.fl (.mt .expr),.fl (.wd 6 [⟨#[46,46]⟩]),.fl (.mt .expr),.fl (.wd 6 [⟨#[93]⟩]),.fl (.wd 2 [⟨#[111,102]⟩]),.fl (.mt .kind)]
  else if o.elim false (wk 2 ⟨#[114,101,99,111,114,100]⟩) then .op 10 [.fl (.wd 2 [⟨#[114,101,99,111,114,100]⟩]),.fl (.mt .member),.again (.row [.wd 6 [⟨#[59]⟩],.mt .member]),.fl (.wd 2 [⟨#[101,110,100]⟩])] else .op 8 [.fl .nm]
 |.statement=>match o with
  |none=>.ref
  |some t=>if t.k == 1 then .op 14 [.fl (.mt .object),.once (.row [.wd 6 [⟨#[58,61]⟩],.mt .expr])] else if t.k == 2 then co t.t else .ref
 |.factor=>match o with
  |none=>.ref
  |some t=>M.row t .factor
 |m=>M.row aB m
def bw (o:Option Tv) (p:Pk):Option It:=
 match o with
 |none=>none
 |some t=>match p with
  |.fn d=>if t.k == d.kd then (d.pick t).map (fun m=>.fl (.mt m)) else none
  |p=>Pk.pick t p
def dst (L:List Tv):It->D->List It × D
 |.fl (.mt m),d=>match cR (cZ L d) m with
  |.ref=>([],fj L false d)
  |.ex r=>(r,d)
  |.op nd r=>(r++[.lv nd],eI nd d)
 |.fl x,d=>([],fj L (qn L d (fun t=>x.takes t)) d)
 |.lv n,d=>([],nr n d)
 |.once p,d=>((bw (cZ L d) p).toList,d)
 |.again p,d=>(Iy p (bw (cZ L d) p),d)
 |.all r,d=>(r.map It.fl,d)
inductive mz (L:List Tv):List It->D->List It->D->Prop
 |refl {K:List It} {d:D}:mz L K d K d
 |step {i:It} {K K':List It} {d d':D}:mz L ((dst L i d).1++K) (dst L i d).2 K' d'->mz L (i :: K) d K' d'
theorem mz.trans {L:List Tv}{K C F:List It}{d d1 d2:D}(h:mz L K d C d1) (G:mz L C d1 F d2):mz L K d F d2:=by
 induction h with
 |refl=>exact G
 |step _ ih=>exact .step (ih G)
theorem mz.det {K C:List It}{d d1 d2:D}(h:mz L K d C d1) (F:mz L K d [] d2):mz L C d1 [] d2:=by
 induction h with
 |refl=>exact F
 |step _ ih=>
  cases F with
  |step h2=>exact ih h2
def Ib (L:List Tv) (i:It) (d d':D):Prop:=∀K,mz L (i :: K) d K d'
def Rb (L:List Tv) (r:List It) (d d':D):Prop:=∀K,mz L (r++K) d K d'
theorem aF {d:D}:Rb L [] d d:=fun K=>.refl
theorem aa {i:It}{r:List It}{d d1 d2:D}(h:Ib L i d d1) (C:Rb L r d1 d2):Rb L (i :: r) d d2:=fun K=>(h (r++K)).trans (C K)
theorem iW {L:List Tv}{d:D}{x:Fl}(C:∀m,x≠.mt m):Ib L (.fl x) d (fj L (qn L d (fun t=>x.takes t)) d):=fun K=>by
 refine .step ?_;cases x with
 |mt m=>exact absurd rfl (C m)
 |_=>exact .refl
theorem MC {L:List Tv}{d:D}{n:Int}:Ib L (.lv n) d (nr n d):=fun K=>.step .refl
theorem aU {L:List Tv}{d d':D}{m:M}{nd:Int}{r:List It}(h:cR (cZ L d) m=.op nd r) (C:Rb L (r++[.lv nd]) (eI nd d) d'):Ib L (.fl (.mt m)) d d':=fun K=>by
 refine .step ?_;have e:dst L (.fl (.mt m)) d=(r++[.lv nd],eI nd d):=by simp only [dst,h]
 rw [e];exact C K
theorem rK {L:List Tv}{d d':D}{m:M}{r:List It}(h:cR (cZ L d) m=.ex r) (C:Rb L r d d'):Ib L (.fl (.mt m)) d d':=fun K=>by
 refine .step ?_;have e:dst L (.fl (.mt m)) d=(r,d):=by simp only [dst,h]
 rw [e];exact C K
theorem tM {L:List Tv}{d:D}{m:M}(h:cR (cZ L d) m=.ref):Ib L (.fl (.mt m)) d (fj L false d):=fun K=>by
 refine .step ?_;have e:dst L (.fl (.mt m)) d=([],fj L false d):=by simp only [dst,h]
 rw [e];exact .refl
theorem aO {d d':D}{r:List Fl}(h:Rb L (r.map It.fl) d d'):Ib L (.all r) d d':=fun K=>.step (h K)
theorem bi {d:D}{p:Pk}(h:bw (cZ L d) p=none):Ib L (.once p) d d:=fun K=>by
 refine .step ?_;simp only [dst,h];exact .refl
theorem bm {d d':D}{p:Pk}{i:It}(h:bw (cZ L d) p=some i) (C:Ib L i d d'):Ib L (.once p) d d':=fun K=>by
 refine .step ?_;simp only [dst,h];exact C K
theorem rL {d:D}{p:Pk}(h:bw (cZ L d) p=none):Ib L (.again p) d d:=fun K=>by
 refine .step ?_;simp only [dst,h];exact .refl
theorem bq {d d1 d2:D}{p:Pk}{i:It}(h:bw (cZ L d) p=some i) (C:Ib L i d d1) (F:Ib L (.again p) d1 d2):Ib L (.again p) d d2:=fun K=>by
 refine .step ?_;simp only [dst,h];exact (C (.again p :: K)).trans (F K)
def ms (L:List Tv) (d:D):Nat:=if d.e=0 then L.length-d.i+1 else 0
theorem wl {d:D}:ms L (eI n d)=ms L d:=by unfold eI;split <;> rfl
theorem Qh {d:D}:ms L (nr n d)=ms L d:=by unfold nr;split <;> rfl
theorem Aj {d:D}{f:Tv->Bool}(h:qn L d f=true):d.e=0/\d.i<L.length:=by
 unfold qn cZ at h
 split at h
 ·rename_i F
  refine ⟨F,?_⟩;cases C:L[d.i]? with
  |none=>rw [C] at h;cases h
  |some t=>exact (Te.1 C).1
 ·cases h
theorem FU {L:List Tv}{d:D}{f:Tv->Bool}{r:Bool}(h:r=qn L d f):ms L (fj L r d)<=ms L d/\(0<ms L d->ms L (fj L r d)<ms L d):=by
 cases F:r with
 |true=>
  rw [F] at h;obtain ⟨C,G⟩:=Aj h.symm;unfold fj ms;simp only [Vb]
  split
  ·simp [C]
  ·simp only [C,Vb];omega
 |false=>
  unfold fj ms;simp only [Tu,Ui]
  by_cases C:d.e=0
  ·simp only [C,Vb]
   split <;> simp
  ·simp [C]
def Pn (d:D):Prop:=d.e=0->d.p≠[]
theorem vZ {d:D}(C:¬d.e=0):eI n d=d:=by unfold eI;rw [Eq C]
theorem xu {d:D}(C:¬d.e=0):nr n d=d:=by unfold nr;rw [Eq C]
def jn (L:List Tv) (x:Fl) (d:D):D:=fj L (qn L d (fun t=>x.takes t)) d
theorem qV (k:Int) (s:ByteArray) (t:Tv):wk k s t=(t.k == k && t.t.toList == s.toList):=by unfold wk;rw [Hq]
theorem Lq (o:Option Tv) (m:M):(cR o m).ok:=by
 cases m with
 |kind=>
  simp only [cR]
  repeat' split
  all_goals simp [Gw.ok,j8,It.wf,Pk.wf,Mk,bM]
 |statement=>
  cases o with
  |none=>trivial
  |some t=>
   simp only [cR]
   split
   ·simp [Gw.ok,j8,It.wf,Pk.wf,Mk,bM]
   ·split
    ·exact oE _
    ·trivial
 |factor=>
  cases o with
  |none=>trivial
  |some t=>exact io t .factor
 |_=>simp only [cR];exact io aB _
theorem GS {o:Option Tv}{m:M}:(∀r,cR o m=.ex r->bM r=[])/\(∀nd r,cR o m=.op nd r->bM r=[]):=by
 have h:=Lq o m;constructor
 ·intro r e;rw [e] at h;exact h.2.2
 ·intro nd r e;rw [e] at h;exact h.2.2.1
theorem mp {p:Pk}{i:It}(h:bw o p=some i):bM [i]=[]:=by
 cases o with
 |none=>cases h
 |some t=>
  cases p with
  |fn d=>
   simp only [bw] at h
   split at h
   ·simp only [Ts] at h;obtain ⟨m,_,rfl⟩:=h;rfl
   ·cases h
  |row r=>
   simp only [bw,Pk.pick] at h
   split at h
   ·cases h;rfl
   ·cases h
  |ex m=>
   simp only [bw,Pk.pick] at h
   split at h
   ·cases h
   ·cases h;rfl
theorem oP {b:Bool}{d:D}(h:(fj L b d).e=0):b=true/\d.e=0/\(fj L b d).p=d.p/\d.p.length<=1000:=by
 unfold fj at h ⊢;cases b with
 |true=>
  simp only [Vb] at h ⊢
  split at h
  ·cases h
  ·rename_i hd
   rw [Eq hd];exact ⟨trivial,h,rfl,by omega⟩
 |false=>
  simp only [Tu,Ui] at h
  split at h
  ·split at h <;> cases h
  ·rename_i C;exact absurd h C
theorem FB {n:Int}{d:D}:(eI n d).e=d.e:=by unfold eI;split <;> rfl
theorem xt {d:D}:(nr n d).e=d.e:=by unfold nr;split <;> rfl
theorem GO {i:It}{d:D}(h:(dst L i d).2.e=0):d.e=0/\∀(K:List It) (base q:List (Int × Nat)),d.p=base++q->q.map (·.1)=(bM (i :: K)).reverse->∃O,(dst L i d).2.p=base++O/\O.map (·.1)=(bM ((dst L i d).1++K)).reverse:=by
 cases i with
 |fl x=>
  by_cases M:∃m,x=.mt m
  ·obtain ⟨m,rfl⟩:=M;obtain ⟨l1,l2⟩:=GS (o:=cZ L d) (m:=m);simp only [dst] at h ⊢;cases H:cR (cZ L d) m with
   |ref=>
    rw [H] at h;exact absurd (oP h).1 (by decide)
   |ex r=>
    rw [H] at h;refine ⟨h,fun K base q F C=>⟨q,F,?_⟩⟩;rw [bO,l1 r H];exact C
   |op nd r=>
    rw [H] at h;simp only at h ⊢;have I:d.e=0:=by rw [<-FB (n:=nd)];exact h
    refine ⟨I,fun K base q F C=>⟨q++[(nd,d.s+1)],?_,?_⟩⟩
    ·unfold eI;rw [IO I];simp [F]
    ·rw [bO,bO,l2 nd r H];simp only [bM,UB,C];simp
  ·have e:dst L (.fl x) d=([],fj L (qn L d (fun t=>x.takes t)) d):=by
    cases x with
    |mt m=>exact absurd ⟨m,rfl⟩ M
    |_=>rfl
   rw [e] at h ⊢;obtain ⟨_,I,G,_⟩:=oP h;exact ⟨I,fun K base q F C=>⟨q,by rw [G];exact F,C⟩⟩
 |lv n=>
  simp only [dst] at h ⊢;rw [xt] at h;refine ⟨h,fun K base q F C=>⟨q.dropLast,?_,?_⟩⟩
  ·unfold nr;rw [IO h]
   have J:q≠[]:=by
    intro J;rw [J] at C;simp [bM] at C
   show d.p.dropLast=_
   rw [F,List.dropLast_append_of_ne_nil J]
  ·rw [List.map_dropLast,C];simp [bM]
 |once p=>
  simp only [dst] at h ⊢;refine ⟨h,fun K base q F C=>⟨q,F,?_⟩⟩;cases G:bw (cZ L d) p with
  |none=>exact C
  |some i=>
   show _=(bM ([i]++K)).reverse
   rw [bO,mp G];exact C
 |again p=>
  simp only [dst] at h ⊢;refine ⟨h,fun K base q F C=>⟨q,F,?_⟩⟩;cases G:bw (cZ L d) p with
  |none=>exact C
  |some i=>
   show _=(bM ([i]++(.again p :: K))).reverse
   rw [bO,mp G];exact C
 |all r=>
  simp only [dst] at h ⊢;refine ⟨h,fun K base q F C=>⟨q,F,?_⟩⟩;rw [bO,kb];exact C
theorem pj {K K':List It}{d d':D}(h:mz L K d K' d') (G:d'.e=0):d.e=0/\∀(base q:List (Int × Nat)),d.p=base++q->q.map (·.1)=(bM K).reverse->∃H,d'.p=base++H/\H.map (·.1)=(bM K').reverse:=by
 induction h with
 |refl=>exact ⟨G,fun base q C F=>⟨q,C,F⟩⟩
 |step _ ih=>
  obtain ⟨I,J⟩:=ih G;obtain ⟨h3,h4⟩:=GO I;refine ⟨h3,fun base q C F=>?_⟩;obtain ⟨q1,e3,e4⟩:=h4 _ base q C F;exact J base q1 e3 e4
theorem KQ {i:It}{d d':D}(G:bM [i]=[]) (h:Ib L i d d') (H:d'.e=0):d.e=0/\d'.p=d.p:=by
 obtain ⟨C,F⟩:=pj (h []) H;obtain ⟨q,e1,e2⟩:=F d.p [] (by simp) (by rw [G];rfl);have:q=[]:=by simpa [bM] using e2
 exact ⟨C,by rw [e1,this];simp⟩
theorem PX {i:It}{d d':D}(h:Pn d) (I:bM [i]=[]) (G:Ib L i d d'):Pn d':=by
 intro H;obtain ⟨C,F⟩:=KQ I G H;rw [F];exact h C
theorem OG {i:It}{d:D}:ms L (dst L i d).2<=ms L d:=by
 have ref:ms L (fj L false d)<=ms L d:=by
  unfold fj ms;simp only [Tu,Ui]
  by_cases C:d.e=0
  ·simp only [C,Vb];split <;> simp
  ·simp [C]
 cases i with
 |fl x=>
  by_cases F:∃m,x=.mt m
  ·obtain ⟨m,rfl⟩:=F;simp only [dst];cases cR (cZ L d) m with
   |ref=>exact ref
   |ex r=>exact gt _
   |op nd r=>exact Nat.le_of_eq wl
  ·have e:dst L (.fl x) d=([],fj L (qn L d (fun t=>x.takes t)) d):=by
    cases x with
    |mt m=>exact absurd ⟨m,rfl⟩ F
    |_=>rfl
   rw [e];exact (FU rfl).1
 |lv n=>exact Nat.le_of_eq Qh
 |_=>exact gt _
theorem lT {K K':List It}{d d':D}(h:mz L K d K' d'):ms L d'<=ms L d:=by
 induction h with
 |refl=>exact gt _
 |step _ ih=>exact SY ih OG
theorem bK {i:It}{d d':D}(h:Ib L i d d'):ms L d'<=ms L d:=lT (h [])
theorem N9 {L:List Tv}{x:Fl}{d:D}:ms L (jn L x d)<=ms L d/\(0<ms L d->ms L (jn L x d)<ms L d):=FU rfl
theorem Qm {d:D}{k:Int}:Ib L (.fl (.wd k ts)) d (jn L (.wd k ts) d):=iW aC
theorem R9 {d:D}:Ib L (.fl .nm) d (jn L .nm d):=iW df
theorem Sa {d:D}:Ib L (.fl .cs) d (jn L .cs d):=iW FO
theorem aA {d:D}{x:Fl}{r:List Fl}(h:qn L d (fun t=>Fl.takes t x)=true):bw (cZ L d) (.row (x :: r))=some (.all (x :: r)):=by
 unfold qn at h;cases C:cZ L d with
 |none=>rw [C] at h;cases h
 |some t=>
  rw [C] at h;simp only [Option.elim] at h;simp [bw,Pk.pick,h]
theorem aM {d:D}{x:Fl}{r:List Fl}(h:qn L d (fun t=>Fl.takes t x)=false):bw (cZ L d) (.row (x :: r))=none:=by
 unfold qn at h;cases C:cZ L d with
 |none=>rfl
 |some t=>
  rw [C] at h;simp only [Option.elim] at h;simp [bw,Pk.pick,h]
structure Lp (L:List Tv) (p:Pk) (d0 d:D):Prop where
 go:∀d2,Ib L (.again p) d d2->Ib L (.again p) d0 d2
 le:ms L d<=ms L d0
 pn:Pn d0->Pn d
theorem Lp.refl {L:List Tv}{p:Pk}{d:D}:Lp L p d d:=⟨fun _ h=>h,gt _,fun h=>h⟩
theorem Lp.step {L:List Tv}{p:Pk}{d0 d d1:D}{i:It}(h:Lp L p d0 d) (F:bw (cZ L d) p=some i) (C:Ib L i d d1):Lp L p d0 d1:=
 ⟨fun d2 G=>h.go d2 (bq F C G),SY (bK C) h.le,fun H=>PX (h.pn H) (mp F) C⟩
theorem Lp.fin {p:Pk}{d0 d:D}(h:Lp L p d0 d) (C:bw (cZ L d) p=none):Ib L (.again p) d0 d:=h.go d (rL C)
def nP:List Ev->List (Int × Nat) × Nat->List (Int × Nat) × Nat
 |[],x=>x
 |e :: o,(p,s)=>if e.k=1 then nP o (p++[(e.n,s+1)],s+1) else if e.k=3 then nP o (p.dropLast,s) else nP o (p,s)
theorem nO:∀(a b:List Ev) (x:List (Int × Nat) × Nat),nP (a++b) x=nP b (nP a x)
 |[],b,x=>rfl
 |e :: a,b,(p,s)=>by
  simp only [Tr,nP]
  split
  ·exact nO a b _
  ·split
   ·exact nO a b _
   ·exact nO a b _
def lU (d:D) (o:List Ev):D:={ d with p:=(nP o (d.p,d.s)).1,s:=(nP o (d.p,d.s)).2,v:=d.v++o }
theorem iK (d:D):lU d []=d:=by simp [lU,nP]
theorem Ff (d:D) (a b:List Ev):lU (lU d a) b=lU d (a++b):=by simp [lU,nO]
def bad (k:Dk) (t:Tv):Prop:=(t.k == k.kd)=false/\(k=.detail->(t.is [91] || t.is [46] || t.is [40])=true)
def PZ (ts:List ByteArray):Bool:=ts.all (fun s=>!(s.toList == [91] || s.toList == [46] || s.toList == [40]))
def blk (k:Dk):It->Bool
 |.fl (.wd q ts)=>match k with
  |.declaration=>q == 2
  |.bracket=>q == 6
  |.detail=>q == 6 || PZ ts
 |_=>false
def QT (k:Dk):It->Bool
 |.lv _=>match k with|.detail=>true|_=>false
 |.once (.row (.wd q ts :: _))=>match k with
  |.declaration=>false
  |.bracket=>q == 6
  |.detail=>q == 6 || PZ ts
 |.again (.row (.wd q ts :: _))=>match k with
  |.detail=>q == 6 || PZ ts
  |_=>false
 |.once (.fn _)=>match k with|.detail=>true|_=>false
 |.again (.fn _)=>match k with|.detail=>true|_=>false
 |_=>false
def xK (k:Dk):List It->Bool
 |[]=>true
 |i :: K=>blk k i || (QT k i && xK k K)
def km (L:List Tv) (K:List It) (d:D):Prop:=∃K' d',mz L K d K' d'/\d'.i=d.i/\(d'.e=120\/(K'=[]/\d'.e=0))
theorem km.step {L:List Tv}{i:It}{K:List It}{d:D}(h:km L ((dst L i d).1++K) (dst L i d).2) (H:(dst L i d).2.i=d.i):km L (i :: K) d:=by
 obtain ⟨K',d',C,F,G⟩:=h;exact ⟨K',d',.step C,F.trans H,G⟩
theorem eU {d:D}(h:cZ L d=some t):d.e=0/\L[d.i]?=some t/\d.i<L.length:=by
 unfold cZ at h
 split at h
 ·rename_i C
  exact ⟨C,h,(Te.1 h).1⟩
 ·cases h
theorem sS {L:List Tv}{K:List It}{d:D}{t:Tv}(G:cZ L d=some t) {x:Fl}(I:∀m,x≠.mt m) (ht:x.takes t=false):km L (.fl x :: K) d:=by
 obtain ⟨C,_,F⟩:=eU G;have H:qn L d (fun t=>x.takes t)=false:=by unfold qn;rw [G];exact ht
 refine ⟨K,_,iW I K,?_,.inl ?_⟩
 ·rw [H];simp [fj,C,F]
 ·rw [H];simp [fj,C,F]
theorem Ol (h:PZ ts=true) (F:(t.is [91] || t.is [46] || t.is [40])=true):kS ts t.t=false:=by
 refine VO.2 (fun s G=>?_);have C:=Vu.1 h s G;simp only [Tz];intro e;subst e;unfold Tv.is at F;rw [F] at C;cases C
theorem zr {k:Dk}{q:Int}(G:bad k t) (h:match k with|.declaration=>q == 2|.bracket=>q == 6|.detail=>q == 6 || PZ ts):Fl.takes t (.wd q ts)=false:=by
 obtain ⟨C,F⟩:=G;simp only [Fl.takes];cases k with
 |declaration=>
  simp only [TY] at h;subst h;simp only [Dk.kd] at C;rw [C];rfl
 |bracket=>
  simp only [TY] at h;subst h;simp only [Dk.kd] at C;rw [C];rfl
 |detail=>
  simp only [Th,TY] at h
  rcases h with rfl|h
  ·simp only [Dk.kd] at C;rw [C];rfl
  ·rw [Ol h (F rfl),Uz]
theorem sJ {k:Dk}(F:bad k t) {L:List Tv}:∀(K:List It) (d:D),xK k K=true->cZ L d=some t->km L K d
 |[],d,_,hn=>⟨[],d,.refl,rfl,.inr ⟨rfl,(eU hn).1⟩⟩
 |i :: K,d,h,hn=>by
  have C:(dst L i d).1=[]->cZ L (dst L i d).2=some t->(dst L i d).2.i=d.i->xK k K=true->km L (i :: K) d:=fun M O Q S=>by
   refine km.step ?_ Q;rw [M];exact sJ F K _ S O
  simp only [xK,Th,Tc] at h
  rcases h with h|⟨h,I⟩
  ·cases i with
   |fl x=>
    cases x with
    |wd q ts=>exact sS hn aC (zr F (by cases k <;> exact h))
    |_=>cases h
   |_=>cases h
  ·cases i with
   |fl x=>cases h
   |lv n=>
    refine C rfl ?_ ?_ I
    ·simp only [dst,nr,(eU hn).1,Vb]
     simpa [cZ,(eU hn).1] using hn
    ·simp only [dst,nr,(eU hn).1,Vb]
   |once p=>
    have J:bw (cZ L d) p=none:=by
     rw [hn];cases p with
     |fn q=>
      cases k with
      |detail=>
       have G:=F.2 rfl;simp only [bw];cases q with
       |declaration=>
        split
        ·have H:t.is [118,97,114]=false/\t.is [99,111,110,115,116]=false/\t.is [112,114,111,99]=false:=by
          unfold Tv.is at G ⊢;simp only [Th,TY] at G
          rcases G with (e|e)|e <;> rw [e] <;> decide
         simp [Dk.pick,H.1,H.2.1,H.2.2]
        ·rfl
       |bracket=>rw [Eq (by rw [show Dk.bracket.kd=Dk.detail.kd from rfl,F.1];decide)]
       |detail=>rw [Eq (by rw [F.1];decide)]
      |_=>cases h
     |row r=>
      cases r with
      |nil=>rfl
      |cons x r=>
       cases x with
       |wd q ts=>
        have:Fl.takes t (.wd q ts)=false:=zr F (by
         cases k with
         |declaration=>cases h
         |bracket=>exact h
         |detail=>exact h)
        simp [bw,Pk.pick,this]
       |_=>cases h
     |ex m=>cases h
    refine C ?_ ?_ rfl I
    ·simp only [dst,J];rfl
    ·exact hn
   |again p=>
    have J:bw (cZ L d) p=none:=by
     rw [hn];cases p with
     |fn q=>
      cases k with
      |detail=>
       have G:=F.2 rfl;simp only [bw];cases q with
       |declaration=>
        split
        ·have H:t.is [118,97,114]=false/\t.is [99,111,110,115,116]=false/\t.is [112,114,111,99]=false:=by
          unfold Tv.is at G ⊢;simp only [Th,TY] at G
          rcases G with (e|e)|e <;> rw [e] <;> decide
         simp [Dk.pick,H.1,H.2.1,H.2.2]
        ·rfl
       |bracket=>rw [Eq (by rw [show Dk.bracket.kd=Dk.detail.kd from rfl,F.1];decide)]
       |detail=>rw [Eq (by rw [F.1];decide)]
      |_=>cases h
     |row r=>
      cases r with
      |nil=>rfl
      |cons x r=>
       cases x with
       |wd q ts=>
        have:Fl.takes t (.wd q ts)=false:=zr F (by
         cases k with
         |detail=>exact h
         |_=>cases h)
        simp [bw,Pk.pick,this]
       |_=>cases h
     |ex m=>cases h
    refine C ?_ ?_ rfl I
    ·simp only [dst,J];rfl
    ·exact hn
   |all r=>cases h
def PH:Fl->Bool
 |.mt _=>false
 |_=>true
def Jc:It->Bool
 |.fl x=>PH x
 |_=>false
def Mn:List Fl->Bool
 |[]=>true
 |x :: r=>Mn r && (PH x || (match r with|[]=>true|y :: _=>blk .detail (.fl y)))
def Ql:It->Bool
 |.all r=>Mn r
 |.once (.row r)=>Mn r
 |.once _=>true
 |.again (.row r)=>Mn r && QT .detail (.again (.row r))
 |.again (.fn _)=>true
 |.again (.ex _)=>false
 |_=>true
def Qp:It->Option Dk
 |.once (.fn k)=>some k
 |.again (.fn k)=>some k
 |_=>none
def nw:List It->Bool
 |[]=>true
 |i :: K=>nw K && (Ql i && ((Jc i || xK .detail K) && (match Qp i with|some k=>xK k K|none=>true)))
def PM (k:Dk):List It->Bool
 |[]=>match k with|.detail=>true|_=>false
 |i :: K=>blk k i || (QT k i && PM k K)
def Qb:List It->Bool
 |[]=>true
 |i :: K=>Qb K && (Ql i && ((Jc i || PM .detail K) && (match Qp i with|some k=>PM k K|none=>true)))
theorem sI {k:Dk}{K:List It}(C:xK .detail K=true):∀(r:List It),PM k r=true->xK k (r++K)=true
 |[],h=>by cases k <;> first|exact C|cases h
 |i :: r,h=>by
  simp only [PM,Th,Tc] at h;simp only [Tr,xK,Th,Tc];exact h.imp id (fun h=>⟨h.1,sI C r h.2⟩)
theorem yC {K:List It}(G:nw K=true) (C:xK .detail K=true):∀(r:List It),Qb r=true->nw (r++K)=true
 |[],_=>G
 |i :: r,h=>by
  simp only [Qb,Tc,Th] at h;simp only [Tr,nw,Tc,Th];refine ⟨yC G C r h.1,h.2.1,h.2.2.1.imp id (sI C r),?_⟩;have F:=h.2.2.2;cases H:Qp i with
  |none=>rfl
  |some k=>rw [H] at F;exact sI C r F
def Gw.nx:Gw->Bool
 |.op nd r=>Qb (r++[.lv nd])
 |.ex r=>Qb r
 |.ref=>true
theorem xP (s:ByteArray):(co s).nx=true:=by
 unfold co
 repeat' split
 all_goals kernel_rfl
theorem GR (o:Option Tv) (m:M):(cR o m).nx=true:=by
 cases m with
 |kind=>
  simp only [cR]
  by_cases C:o.elim false (wk 2 ⟨#[97,114,114,97,121]⟩)=true
  ·rw [IO C];kernel_rfl
  ·rw [Eq C]
   by_cases F:o.elim false (wk 2 ⟨#[114,101,99,111,114,100]⟩)=true
   ·rw [IO F];kernel_rfl
   ·rw [Eq F];kernel_rfl
 |statement=>
  cases o with
  |none=>rfl
  |some t=>
   simp only [cR]
   by_cases C:(t.k == 1)=true
   ·rw [IO C];kernel_rfl
   ·rw [Eq C]
    by_cases F:(t.k == 2)=true
    ·rw [IO F];exact xP t.t
    ·rw [Eq F];rfl
 |factor=>
  cases o with
  |none=>rfl
  |some t=>
   simp only [cR,M.row]
   by_cases C:(cL t == 25)=true
   ·rw [IO C];kernel_rfl
   rw [Eq C]
   by_cases C:(cL t == 26)=true
   ·rw [IO C];kernel_rfl
   rw [Eq C]
   by_cases C:(cL t == 27)=true
   ·rw [IO C];kernel_rfl
   rw [Eq C]
   by_cases C:(cL t == 32)=true
   ·rw [IO C];kernel_rfl
   rw [Eq C]
   by_cases C:(cL t == 28)=true
   ·rw [IO C];kernel_rfl
   rw [Eq C];rfl
 |_=>simp only [cR,M.row];kernel_rfl
theorem ES {K:List It}(F:nw K=true) (C:xK .detail K=true):∀(r:List Fl),Mn r=true->nw (r.map It.fl++K)=true
 |[],_=>F
 |x :: r,h=>by
  simp only [Mn,Tc,Th] at h;simp only [T1,Tr,nw,Tc,Th];refine ⟨ES F C r h.1,rfl,h.2.imp id (fun G=>?_),rfl⟩;cases r with
  |nil=>exact C
  |cons y r=>
   simp only [T1,Tr,xK,Th];exact .inl G
theorem nR {i:It}{K:List It}(h:nw (i :: K)=true):nw K=true/\Ql i=true/\(Jc i=false->xK .detail K=true)/\(∀k,Qp i=some k->xK k K=true):=by
 simp only [nw,Tc,Th] at h;refine ⟨h.1,h.2.1,fun e=>h.2.2.1.resolve_left (by rw [e];decide),fun k e=>?_⟩;have:=h.2.2.2;rw [e] at this;exact this
theorem rT {p:Pk}{j:It}(h:bw o p=some j) (C:∀r,p=.row r->Mn r=true):Ql j=true/\Qp j=none/\Jc j=false:=by
 cases o with
 |none=>cases h
 |some t=>
  cases p with
  |fn d=>
   simp only [bw] at h
   split at h
   ·simp only [Ts] at h;obtain ⟨m,_,rfl⟩:=h;exact ⟨rfl,rfl,rfl⟩
   ·cases h
  |row r=>
   simp only [bw,Pk.pick] at h
   split at h
   ·cases h;exact ⟨C r rfl,rfl,rfl⟩
   ·cases h
  |ex m=>
   simp only [bw,Pk.pick] at h
   split at h
   ·cases h
   ·cases h;exact ⟨rfl,rfl,rfl⟩
theorem OF {L:List Tv}{i:It}{K:List It}{d:D}(h:nw (i :: K)=true):nw ((dst L i d).1++K)=true:=by
 obtain ⟨C,G,H,O⟩:=nR h;cases i with
 |fl x=>
  by_cases J:∃m,x=.mt m
  ·obtain ⟨m,rfl⟩:=J;have F:=GR (cZ L d) m;simp only [dst];cases hd:cR (cZ L d) m with
   |ref=>exact C
   |ex r=>rw [hd] at F;exact yC C (H rfl) r F
   |op nd r=>rw [hd] at F;exact yC C (H rfl) _ F
  ·have e:dst L (.fl x) d=([],fj L (qn L d (fun t=>x.takes t)) d):=by
    cases x with
    |mt m=>exact absurd ⟨m,rfl⟩ J
    |_=>rfl
   rw [e];exact C
 |lv n=>exact C
 |all r=>exact ES C (H rfl) r G
 |once p=>
  simp only [dst];cases I:bw (cZ L d) p with
  |none=>exact C
  |some j=>
   obtain ⟨a,b,c⟩:=rT I (fun r e=>by subst e;exact G);show nw (j :: K)=true;simp only [nw,Tc,Th,a,b,C,H rfl,and_self,or_true]
 |again p=>
  simp only [dst];cases I:bw (cZ L d) p with
  |none=>exact C
  |some j=>
   have F:(∀r,p=.row r->Mn r=true)/\QT .detail (.again p)=true:=by
    cases p with
    |fn k=>exact ⟨(fun r e=>by cases e),rfl⟩
    |row r=>
     simp only [Ql,Tc] at G;exact ⟨(fun r' e=>by cases e;exact G.1),G.2⟩
    |ex m=>cases G
   obtain ⟨a,b,c⟩:=rT I F.1;show nw (j :: .again p :: K)=true
   have M:xK .detail (.again p :: K)=true:=by
    simp only [xK,Th,Tc];exact .inr ⟨F.2,H rfl⟩
   rw [nw];simp only [Tc,Th,a,b,h,M,and_self,or_true]
theorem Ki:nw (ci++[.lv 1])=true:=by kernel_rfl
end Go.Proofs.YtcjiapphbpiffaaGreatDoor
