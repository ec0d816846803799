import Derived.Deep.RegionHeld3
import Derived.Deep.RegionWith
import Derived.WalkMore
import Derived.BigQuiet
import Derived.RangeFuncNested
import Derived.RangeFuncBound
import Derived.RangeFuncCalls
import Derived.RangeFuncLeaves
import Derived.Shelf.Abstract
import Derived.Shelf.RegionOpen
import Derived.OwnWalkIn
import Derived.TacticsInMore
import Derived.LoopNIn
import Derived.LoopIn
import Derived.RangeFuncOwn
import Derived.Test.YtcmbkeghnmgbfaaGreatDoorM01
set_option linter.all false
set_option maxHeartbeats 2000000
namespace Go.Proofs.YtcmbkeghnmgbfaaGreatDoor
open Go.Proofs.Tryz
open Go.RowKit
variable {t:Tv}{n e d:Int}{W w W' w':World}{E o:List Ev}{g k:Nat}{c:Bool}{vs vt:Value}{a:Act}
inductive M|block|variables|constants|procedure|params|param|typed|kind|member|body|statement|expr|rel|sum|term|factor|object|index|selection|args|list
deriving DecidableEq
inductive Dk|declaration|bracket|detail
deriving DecidableEq
inductive Fl|wd (k:Int) (ts:List ByteArray)|nm|cs|mt (m:M)
inductive Pk|fn (d:Dk)|row (r:List Fl)|ex (m:M)
inductive It|fl (x:Fl)|lv (n:Int)|once (p:Pk)|again (p:Pk)|all (r:List Fl)
theorem Fg {a b:ByteArray}(h:a.toList=b.toList):a=b:=by
 rw[Mb,Mb]at h;have:=L4.1 h;cases a;cases b;simp_all
theorem Ht (a b:ByteArray):(a.toList==b.toList)=decide (a=b):=by
 by_cases e:a=b
 ·subst e;simp
 ·have:¬a.toList=b.toList:=fun h=>e (Fg h)
  simp[e,this]
def lD (l:List ByteArray) (s:ByteArray):Bool:=l.any (fun x=>decide (s=x))
def Tv.is (t:Tv) (l:List UInt8):Bool:=t.t.toList==l
def Fl.takes (t:Tv):Fl->Bool
 |.wd k ts=>t.k==k&&lD ts t.t
 |.nm=>t.k==1
 |.cs=>t.k==3||t.k==4||t.k==5
 |.mt _=>false
def dQ (t:Tv):Int:=
 if t.k==6&&t.is [45]then 25 else if t.k==2&&t.is [110,111,116]then 26 else if t.k==6&&t.is [40]then 27
 else if t.k==3||t.k==4||t.k==5 then 32 else if t.k==1 then 28 else 0
def Dk.pick (t:Tv):Dk->Option M
 |.declaration=>if t.is [118,97,114]then some .variables else if t.is [99,111,110,115,116]then some .constants else if t.is [112,114,111,99]then some .procedure else none
 |.bracket=>if t.is [40]then some .params else none
 |.detail=>if t.is [91]then some .index else if t.is [46]then some .selection else if t.is [40]then some .args else none
def Pk.pick (t:Tv):Pk->Option It
 |.fn d=>(d.pick t).map (fun m=>.fl (.mt m))
 |.row r=>if(r.head?.elim false (fun x=>x.takes t))then some (.all r)else none
 |.ex m=>if dQ t==0 then none else some (.fl (.mt m))
def Jl (p:Pk):Option It->List It
 |none=>[]
 |some i=>[i,.again p]
inductive Gw|ref|ex (r:List It)|op (n:Int) (r:List It)
def bM (s:ByteArray):Gw:=
 if s.toList==[115,107,105,112]then .op 13 [.fl (.wd 2 [s])]
 else if s.toList==[105,102]then .op 15 [.fl (.wd 2 [s]),.fl (.mt .expr),.fl (.wd 2 [⟨#[116,104,101,110]⟩]),.fl (.mt .body),.again (.row [.wd 2 [⟨#[101,108,105,102]⟩],.mt .expr,.wd 2 [⟨#[116,104,101,110]⟩],.mt .body]),.once (.row [.wd 2 [⟨#[101,108,115,101]⟩],.mt .body]),.fl (.wd 2 [⟨#[101,110,100]⟩])]
 else if s.toList==[119,104,105,108,101]then .op 16 [.fl (.wd 2 [s]),.fl (.mt .expr),.fl (.wd 2 [⟨#[100,111]⟩]),.fl (.mt .body),.fl (.wd 2 [⟨#[101,110,100]⟩])]
 else if s.toList==[102,111,114]then .op 17 [.fl (.wd 2 [s]),.fl (.nm),.fl (.wd 6 [⟨#[58,61]⟩]),.fl (.mt .expr),.fl (.wd 2 [⟨#[116,111]⟩]),.fl (.mt .expr),.fl (.wd 2 [⟨#[100,111]⟩]),.fl (.mt .body),.fl (.wd 2 [⟨#[101,110,100]⟩])]
 else if s.toList==[114,101,112,101,97,116]then .op 18 [.fl (.wd 2 [s]),.fl (.mt .body),.fl (.wd 2 [⟨#[117,110,116,105,108]⟩]),.fl (.mt .expr)]
 else if s.toList==[114,101,116,117,114,110]then .op 19 [.fl (.wd 2 [s]),.once (.ex .expr)]
 else if s.toList==[98,101,103,105,110]then .op 20 [.fl (.wd 2 [s]),.fl (.mt .body),.fl (.wd 2 [⟨#[101,110,100]⟩])]
 else .ref
def M.row (t:Tv):M->Gw
 |.block=>.op 2 [.again (.fn .declaration),.fl (.wd 2 [⟨#[98,101,103,105,110]⟩]),.fl (.mt .body),.fl (.wd 2 [⟨#[101,110,100]⟩])]
 |.variables=>.op 3 [.fl (.wd 2 [⟨#[118,97,114]⟩]),.fl (.mt .typed),.fl (.wd 6 [⟨#[59]⟩])]
 |.constants=>.op 4 [.fl (.wd 2 [⟨#[99,111,110,115,116]⟩]),.fl (.nm),.fl (.wd 6 [⟨#[61]⟩]),.fl (.mt .expr),.fl (.wd 6 [⟨#[59]⟩])]
 |.params=>.op 6 [.fl (.wd 6 [⟨#[40]⟩]),.fl (.mt .param),.again (.row [.wd 6 [⟨#[59]⟩],.mt .param]),.fl (.wd 6 [⟨#[41]⟩])]
 |.param=>.op 7 [.fl (.mt .typed)]
 |.typed=>.ex [.fl (.nm),.again (.row [.wd 6 [⟨#[44]⟩],.nm]),.fl (.wd 6 [⟨#[58]⟩]),.fl (.mt .kind)]
 |.member=>.op 11 [.fl (.mt .typed)]
 |.body=>.op 12 [.fl (.mt .statement),.again (.row [.wd 6 [⟨#[59]⟩],.mt .statement])]
 |.expr=>.op 21 [.fl (.mt .rel),.again (.row [.wd 2 [⟨#[97,110,100]⟩,⟨#[111,114]⟩],.mt .rel])]
 |.rel=>.op 22 [.fl (.mt .sum),.once (.row [.wd 6 [⟨#[61]⟩,⟨#[35]⟩,⟨#[60]⟩,⟨#[60,61]⟩,⟨#[62]⟩,⟨#[62,61]⟩],.mt .sum])]
 |.sum=>.op 23 [.fl (.mt .term),.again (.row [.wd 6 [⟨#[43]⟩,⟨#[45]⟩],.mt .term])]
 |.term=>.op 24 [.fl (.mt .factor),.again (.row [.wd 6 [⟨#[42]⟩,⟨#[47]⟩,⟨#[37]⟩],.mt .factor])]
 |.object=>.op 28 [.fl (.nm),.again (.fn .detail)]
 |.index=>.op 29 [.fl (.wd 6 [⟨#[91]⟩]),.fl (.mt .list),.fl (.wd 6 [⟨#[93]⟩])]
 |.selection=>.op 30 [.fl (.wd 6 [⟨#[46]⟩]),.fl (.nm)]
 |.args=>.op 31 [.fl (.wd 6 [⟨#[40]⟩]),.once (.ex .list),.fl (.wd 6 [⟨#[41]⟩])]
 |.list=>.ex [.fl (.mt .expr),.again (.row [.wd 6 [⟨#[44]⟩],.mt .expr])]
 |.procedure=>.op 5 [.fl (.wd 2 [⟨#[112,114,111,99]⟩]),.fl (.nm),.once (.fn .bracket),.once (.row [.wd 6 [⟨#[58]⟩],.mt .kind]),.fl (.wd 6 [⟨#[59]⟩]),.fl (.mt .block),.fl (.wd 6 [⟨#[59]⟩])]
 |.kind=>if t.k==1 then .op 8 [.fl .nm]else if t.is [97,114,114,97,121]then .op 9 [.fl (.wd 2 [⟨#[97,114,114,97,121]⟩]),.fl (.wd 6 [⟨#[91]⟩]),.fl (.mt .expr),.fl (.wd 6 [⟨#[46,46]⟩]),.fl (.mt .expr),.fl (.wd 6 [⟨#[93]⟩]),.fl (.wd 2 [⟨#[111,102]⟩]),.fl (.mt .kind)]else if t.is [114,101,99,111,114,100]then .op 10 [.fl (.wd 2 [⟨#[114,101,99,111,114,100]⟩]),.fl (.mt .member),.again (.row [.wd 6 [⟨#[59]⟩],.mt .member]),.fl (.wd 2 [⟨#[101,110,100]⟩])]else .ref
 |.statement=>if t.k==1 then .op 14 [.fl (.mt .object),.once (.row [.wd 6 [⟨#[58,61]⟩],.mt .expr])]else bM t.t
 |.factor=>if dQ t==25 then .op 25 [.fl (.wd 6 [⟨#[45]⟩]),.fl (.mt .factor)]else if dQ t==26 then .op 26 [.fl (.wd 2 [⟨#[110,111,116]⟩]),.fl (.mt .factor)]else if dQ t==27 then .op 27 [.fl (.wd 6 [⟨#[40]⟩]),.fl (.mt .expr),.fl (.wd 6 [⟨#[41]⟩])]else if dQ t==32 then .op 32 [.fl (.cs)]else if dQ t==28 then .ex [.fl (.mt .object)]else .ref
def gY:List It:=[.fl (.wd 2 [⟨#[112,114,111,103,114,97,109]⟩]),.fl (.nm),.fl (.wd 6 [⟨#[59]⟩]),.fl (.mt .block),.fl (.wd 6 [⟨#[46]⟩])]
inductive Sr|tk|ref|go (d:Int) (o:List Ev) (r:List It)
def Gw.sr:Gw->Sr
 |.ref=>.ref
 |.ex r=>.go 0 [] r
 |.op nd r=>.go 1 [⟨1,nd,cD⟩] (r++[.lv nd])
def Fl.step (t:Tv):Fl->Sr
 |.mt m=>(M.row t m).sr
 |x=>if x.takes t then .tk else .ref
def It.step (t:Tv):It->Sr
 |.fl x=>x.step t
 |.lv n=>.go (-1) [⟨3,n,cD⟩] []
 |.once p=>.go 0 [] (Pk.pick t p).toList
 |.again p=>.go 0 [] (Jl p (Pk.pick t p))
 |.all r=>.go 0 [] (r.map It.fl)
def IK (r:List Fl):Prop:=(∃k ts rest,r=Fl.wd k ts :: rest)/\r.length<=8
def Pk.wf:Pk->Prop
 |.row r=>IK r
 |_=>True
def It.wf:It->Prop
 |.once p=>p.wf
 |.again p=>p.wf
 |.all r=>IK r
 |_=>True
def mG (K:List It):Prop:=∀i∈K,i.wf
def cL:List It->List Int
 |[]=>[]
 |.lv n :: K=>n :: cL K
 |_ :: K=>cL K
theorem cq (a b:List It):cL (a++b)=cL a++cL b:=by
 induction a with
 |nil=>rfl
 |cons i r ih=>cases i<;>simp[cL,ih]
theorem AP (r:List Fl):cL (r.map It.fl)=[]:=by
 induction r with
 |nil=>rfl
 |cons x r ih=>simp[cL,ih]
theorem Gg (r:List Fl):mG (r.map It.fl):=by
 intro i u;obtain⟨x,_,rfl⟩:=Mi.1 u
 trivial
theorem j7 {a b:List It}(u:mG a) (F:mG b):mG (a++b):=fun i G=>(Lg.1 G).elim (u i) (F i)
theorem fK:mG []:=fun _ h=>by cases h
theorem fX {i:It}{K:List It}(F:i.wf) (u:mG K):mG (i :: K):=fun j G=>(KL.1 G).elim (fun e=>e ▸ F) (u j)
def Gw.ok:Gw->Prop
 |.ref=>True
 |.ex r=>mG r/\r.length<=10/\cL r=[]
 |.op nd r=>mG r/\r.length<=10/\cL r=[]/\2<=nd/\nd<=32
theorem sy (s:ByteArray):(bM s).ok:=by
 unfold bM
 repeat' split
 all_goals simp[Gw.ok,mG,It.wf,Pk.wf,IK,cL]
theorem sQ (t:Tv) (m:M):(M.row t m).ok:=by
 cases m<;>simp only[M.row]
 case statement=>
  split
  ·simp[Gw.ok,mG,It.wf,Pk.wf,IK,cL]
  ·exact sy _
 all_goals(repeat' split)
 all_goals simp[Gw.ok,mG,It.wf,Pk.wf,IK,cL]
theorem kj {p:Pk}(u:p.wf) {i:It}(h:Pk.pick t p=some i):i.wf/\cL [i]=[]:=by
 cases p with
 |fn d=>
  simp only[Pk.pick,Option.map_eq_some_iff]at h;obtain⟨m,_,rfl⟩:=h;exact⟨trivial,rfl⟩
 |row r=>
  simp only[Pk.pick]at h
  split at h
  ·cases h;exact⟨u,rfl⟩
  ·cases h
 |ex m=>
  simp only[Pk.pick]at h
  split at h
  ·cases h
  ·cases h;exact⟨trivial,rfl⟩
theorem nR {t:Tv}{i:It}{d:Int}{o:List Ev}{r K:List It}(h:It.step t i=.go d o r) (H:i.wf) :
  mG r/\r.length<=11/\o.length<=1/\((cL (r++K)).length:Int)=(cL (i :: K)).length+d:=by
 cases i with
 |fl x=>
  have I:∃m,x=.mt m:=by
   cases x with
   |mt m=>exact⟨m,rfl⟩
   |_=>simp only[It.step,Fl.step]at h;split at h<;>cases h
  obtain⟨m,rfl⟩:=I;have F:=sQ t m;simp only[It.step,Fl.step]at h;cases u:M.row t m with
  |ref=>rw[u]at h;cases h
  |ex r'=>
   rw[u]at h F;cases h;refine⟨F.1,by have:=F.2.1;omega,by simp,?_⟩;rw[cq,F.2.2];simp[cL]
  |op nd r'=>
   rw[u]at h F;cases h;refine⟨j7 F.1 (fX trivial fK),by have:=F.2.1;simp;omega,by simp,?_⟩;rw[cq,cq,F.2.2.1];simp[cL]
 |lv n=>
  cases h;refine⟨fK,by simp,by simp,?_⟩;simp[cL];omega
 |once p=>
  simp only[It.step]at h;cases G:Pk.pick t p with
  |none=>rw[G]at h;cases h;exact⟨fK,by simp,by simp,by simp[cL]⟩
  |some j=>
   rw[G]at h;cases h;have:=kj H G;refine⟨fX this.1 fK,by simp,by simp,?_⟩;show((cL ([j]++K)).length:Int)=_;rw[cq,this.2];simp[cL]
 |again p=>
  simp only[It.step]at h;cases G:Pk.pick t p with
  |none=>rw[G]at h;cases h;exact⟨fK,by simp[Jl],by simp,by simp[cL,Jl]⟩
  |some j=>
   rw[G]at h;cases h;have:=kj H G;refine⟨fX this.1 (fX H fK),by simp[Jl],by simp,?_⟩;show((cL ([j]++([.again p]++K))).length:Int)=_;rw[cq,this.2];simp[cL]
 |all r'=>
  cases h;refine⟨Gg r',by have:=H.2;simp;omega,by simp,?_⟩;rw[cq,AP];simp[cL]
inductive Ro|no|yes (K:List It) (n:Int) (E:List Ev)
inductive Ru (t:Tv):Nat->List It->Int->List Ev->Ro->Prop
 |nil {n:Int} {E:List Ev}:Ru t 0 [] n E .no
 |ref {i:It} {K:List It} {n:Int} {E:List Ev}:It.step t i=.ref->Ru t 0 (i :: K) n E .no
 |tk {i:It} {K:List It} {n:Int} {E:List Ev}:It.step t i=.tk->Ru t 0 (i :: K) n E (.yes K n E)
 |go {k:Nat} {i:It} {K:List It} {n d:Int} {E o:List Ev} {r:List It} {R:Ro}:It.step t i=.go d o r->Ru t k (r++K) (n+d) (E++o) R->Ru t (k+1) (i :: K) n E R
theorem ES {d:Dk}{m:M}(h:d.pick t=some m):m=.variables\/m=.constants\/m=.procedure\/m=.params\/m=.index\/m=.selection\/m=.args:=by
 cases d<;>simp only[Dk.pick]at h<;>repeat' (split at h)
 all_goals first|(cases h;done)|(cases h;simp)
inductive jd|live (K:List It) (n:Int)|stuck (e n:Int)|shut
def beg (K:List It) (n:Int):List It:=if n==0 then gY++.lv 1 :: K else K
def eM (n:Int):Int:=if n==0 then 1 else n
def ec (n:Int):List Ev:=if n==0 then[⟨1,1,cD⟩]else[]
inductive jZ (t:Tv):jd->List Ev->Int->jd->Prop
 |shut:jZ t .shut [] 4 .shut
 |stuck {e n:Int}:jZ t (.stuck e n) [] e (.stuck e n)
 |note {K:List It} {n:Int}:(t.k==7||t.k==8)=true->jZ t (.live K n) (ec n++[⟨4,0,t⟩]) 0 (.live (beg K n) (eM n))
 |no {K:List It} {n:Int} {k:Nat}:(t.k==7||t.k==8)=false->Ru t k (beg K n) (eM n) (ec n) .no->k<=(beg K n).length+20->jZ t (.live K n) [] 120 (.stuck 120 n)
 |deep {K L:List It} {n m:Int} {E:List Ev} {k:Nat}:(t.k==7||t.k==8)=false->Ru t k (beg K n) (eM n) (ec n) (.yes L m E)->k<=(beg K n).length+20->1000<m->jZ t (.live K n) [] 122 (.stuck 122 n)
 |yes {K L:List It} {n m:Int} {E:List Ev} {k:Nat}:(t.k==7||t.k==8)=false->Ru t k (beg K n) (eM n) (ec n) (.yes L m E)->k<=(beg K n).length+20->m<=1000->jZ t (.live K n) (E++[⟨2,0,t⟩]) 0 (.live L m)
structure Lz (K:List It) (n:Int):Prop where
 wf:mG K
 lv:((cL K).length:Int)=n
 sn:(cL K).length<=5000000
 sk:K.length<=500000
def jd.ok:jd->Prop
 |.live K n=>Lz K n
 |.stuck e n=>e≠0
 |.shut=>True
inductive uv:jd->List Ev->Int->Prop
 |shut:uv .shut [] 4
 |stuck {e n:Int}:uv (.stuck e n) [] e
 |all {K:List It} {n:Int}:K.length=1->uv (.live K n) [⟨3,1,cD⟩] 0
 |open {K:List It} {n:Int}:K.length≠1->uv (.live K n) [] 121
def Fl.ht:Fl->Nat
 |.mt .typed=>5
 |.mt .list=>3
 |_=>1
def rh:List Fl->Nat
 |[]=>0
 |x :: r=>max (x.ht+r.length) (rh r)
def Pk.ht:Pk->Nat
 |.row r=>rh r
 |.fn _=>1
 |.ex m=>(Fl.mt m).ht
def It.ht:It->Nat
 |.fl x=>x.ht
 |.lv _=>0
 |.once p=>max 1 p.ht
 |.again p=>1+max 1 p.ht
 |.all r=>max 1 (rh r)
def eO:List It->Nat
 |[]=>0
 |.lv _ :: _=>0
 |_ :: K=>1+eO K
def fb:List It->Prop
 |[]=>True
 |.lv _ :: K=>fb K
 |i :: K=>i.ht+eO K<=15/\fb K
theorem Fl.ht_pos (x:Fl):1<=x.ht:=by
 cases x with
 |mt m=>cases m<;>decide
 |_=>exact ge _
theorem It.ht_pos (i:It) (h:∀n,i≠.lv n):1<=i.ht:=by
 cases i with
 |fl x=>exact x.ht_pos
 |lv n=>exact absurd rfl (h n)
 |once p=>simp only[It.ht];omega
 |again p=>simp only[It.ht];omega
 |all r=>simp only[It.ht];omega
theorem iQ {i:It}(h:∀n,i≠.lv n) (K:List It):eO (i :: K)=1+eO K:=by
 cases i with
 |lv n=>exact absurd rfl (h n)
 |_=>rfl
theorem dD {i:It}(h:∀n,i≠.lv n) (K:List It):fb (i :: K)↔i.ht+eO K<=15/\fb K:=by
 cases i with
 |lv n=>exact absurd rfl (h n)
 |_=>exact Iff.rfl
theorem tY:∀{K:List It},fb K->eO K<=15
 |[],_=>Kj _
 |i :: K,h=>by
  by_cases hl:∃n,i=.lv n
  ·obtain⟨n,rfl⟩:=hl;exact Kj _
  ·have u:∀n,i≠.lv n:=fun n e=>hl ⟨n,e⟩
   have F:=((dD u K).1 h).1;have:=i.ht_pos u;rw[iQ u];omega
theorem oT:∀{K:List It},fb K->K.length<=16*(cL K).length+eO K
 |[],_=>Kj _
 |i :: K,h=>by
  by_cases hl:∃n,i=.lv n
  ·obtain⟨n,rfl⟩:=hl;have F:fb K:=h;have:=oT F;have:=tY F;simp[cL,eO];omega
  ·have u:∀n,i≠.lv n:=fun n e=>hl ⟨n,e⟩
   have:=oT ((dD u K).1 h).2
   have e:cL (i :: K)=cL K:=by
    cases i with
    |lv n=>exact absurd rfl (u n)
    |_=>rfl
   rw[iQ u,e];simp;omega
theorem Hd (r:List Fl) (K:List It) (h:rh r+eO K<=15) (G:fb K):fb (r.map It.fl++K)/\eO (r.map It.fl++K)=r.length+eO K:=by
 induction r with
 |nil=>exact⟨G,by simp⟩
 |cons x r ih=>
  simp only[rh]at h;obtain⟨F,u⟩:=ih (by omega);refine⟨(dD (fun n e=>by cases e) _).2 ⟨?_,F⟩,?_⟩
  ·show x.ht+eO (r.map It.fl++K)<=15
   rw[u];omega
  ·show eO (.fl x :: (r.map It.fl++K))=_
   rw[iQ (fun n e=>by cases e),u,List.length_cons];omega
theorem vp {p:Pk}{i:It}(h:Pk.pick t p=some i):i.ht<=max 1 p.ht/\∀n,i≠.lv n:=by
 cases p with
 |fn d=>
  simp only[Pk.pick,Option.map_eq_some_iff]at h;obtain⟨m,u,rfl⟩:=h;have:=ES u;refine⟨?_,fun n e=>by cases e⟩
  rcases this with rfl|rfl|rfl|rfl|rfl|rfl|rfl<;>exact ge 1
 |row r=>
  simp only[Pk.pick]at h
  split at h
  ·cases h;exact⟨ge _,fun n e=>by cases e⟩
  ·cases h
 |ex m=>
  simp only[Pk.pick]at h
  split at h
  ·cases h
  ·cases h;exact⟨by show(Fl.mt m).ht<=max 1 (Fl.mt m).ht;omega,fun n e=>by cases e⟩
def Gw.fb (m:M):Gw->Prop
 |.ref=>True
 |.ex r=>∀K,(Fl.mt m).ht+eO K<=15->Go.Proofs.YtcmbkeghnmgbfaaGreatDoor.fb K->Go.Proofs.YtcmbkeghnmgbfaaGreatDoor.fb (r++K)
 |.op nd r=>∀K,Go.Proofs.YtcmbkeghnmgbfaaGreatDoor.fb K->Go.Proofs.YtcmbkeghnmgbfaaGreatDoor.fb (r++.lv nd :: K)
theorem GE (t:Tv) (m:M):(M.row t m).fb m:=by
 cases m<;>simp only[M.row,bM]<;>(repeat' split)<;>simp[Gw.fb,fb,eO,It.ht,Fl.ht,Pk.ht,rh]
 all_goals(intro K F u;simp only[u,and_true];omega)
theorem Dv {i:It}{r K:List It}(h:It.step t i=.go d o r) (I:fb (i :: K)):fb (r++K):=by
 cases i with
 |fl x=>
  obtain⟨G,F⟩:=(dD (fun n e=>by cases e) K).1 I
  have hm:∃m,x=.mt m:=by
   cases x with
   |mt m=>exact⟨m,rfl⟩
   |_=>simp only[It.step,Fl.step]at h;split at h<;>cases h
  obtain⟨m,rfl⟩:=hm;have J:=GE t m;simp only[It.step,Fl.step]at h;cases u:M.row t m with
  |ref=>rw[u]at h;cases h
  |ex r'=>rw[u]at h J;cases h;exact J K G F
  |op nd r'=>rw[u]at h J;cases h;rw[Ks];exact J K F
 |lv n=>cases h;exact I
 |once p=>
  obtain⟨G,F⟩:=(dD (fun n e=>by cases e) K).1 I;simp only[It.step]at h;cases H:Pk.pick t p with
  |none=>rw[H]at h;cases h;exact F
  |some j=>
   rw[H]at h;cases h;obtain⟨a,b⟩:=vp H;exact(dD b K).2 ⟨by simp only[It.ht]at G;omega,F⟩
 |again p=>
  have O:∀n,It.again p≠.lv n:=fun n e=>by cases e
  obtain⟨G,F⟩:=(dD O K).1 I;simp only[It.step]at h;cases H:Pk.pick t p with
  |none=>rw[H]at h;cases h;exact F
  |some j=>
   rw[H]at h;cases h;obtain⟨a,b⟩:=vp H;refine(dD b _).2 ⟨?_,I⟩;show j.ht+eO (.again p :: K)<=15;rw[iQ O];simp only[It.ht]at G;omega
 |all r'=>
  obtain⟨G,F⟩:=(dD (fun n e=>by cases e) K).1 I;cases h;exact(Hd r' K (by simp only[It.ht]at G;omega) F).1
def ig:List Int->List Ev->Option (List Int)
 |s,[]=>some s
 |s,e :: r=>if e.k=1 then ig (e.n :: s) r else if e.k=3 then(match s with|n :: s'=>if n=e.n then ig s' r else none|[]=>none)else ig s r
theorem eJ:∀(a b:List Ev) (s u:List Int),ig s a=some u->ig s (a++b)=ig u b
 |[],b,s,u,h=>by cases h;rfl
 |e :: r,b,s,u,h=>by
  simp only[ig,KF]at h ⊢
  split
  ·rename_i F;rw[Kd F]at h;exact eJ r b _ _ h
  ·rename_i F
   rw[IO F]at h
   split
   ·rename_i G
    rw[Kd G]at h;cases s with
    |nil=>cases h
    |cons n s=>
     simp only at h ⊢
     split
     ·rename_i H;rw[Kd H]at h;exact eJ r b _ _ h
     ·rename_i H;rw[IO H]at h;cases h
   ·rename_i G;rw[IO G]at h;exact eJ r b _ _ h
theorem wS {i:It}{r K:List It}(h:It.step t i=.go d o r) (H:i.wf):ig (cL (i :: K)) o=some (cL (r++K)):=by
 have J:=nR (K:=K) h H;cases i with
 |fl x=>
  have I:∃m,x=.mt m:=by
   cases x with
   |mt m=>exact⟨m,rfl⟩
   |_=>simp only[It.step,Fl.step]at h;split at h<;>cases h
  obtain⟨m,rfl⟩:=I;have G:=sQ t m;simp only[It.step,Fl.step]at h;cases u:M.row t m with
  |ref=>rw[u]at h;cases h
  |ex r'=>rw[u]at h G;cases h;rw[cq,G.2.2];rfl
  |op nd r'=>rw[u]at h G;cases h;rw[cq,cq,G.2.2.1];rfl
 |lv n=>cases h;simp[ig,cL]
 |once p=>
  simp only[It.step]at h;cases F:Pk.pick t p with
  |none=>rw[F]at h;cases h;rfl
  |some j=>rw[F]at h;cases h;show some (cL K)=some (cL ([j]++K));rw[cq,(kj H F).2];rfl
 |again p=>
  simp only[It.step]at h;cases F:Pk.pick t p with
  |none=>rw[F]at h;cases h;rfl
  |some j=>rw[F]at h;cases h;show some (cL K)=some (cL ([j]++([.again p]++K)));rw[cq,(kj H F).2];rfl
 |all r'=>cases h;rw[cq,AP];rfl
structure Ok (K:List It) (n:Int):Prop where
 wf:mG K
 fb:fb K
 lv:((cL K).length:Int)=n
 le:n<=1000
theorem Ok.lz {K:List It}(h:Ok K n):Lz K n:=by
 have u:=h.lv;have F:=h.le;have G:=oT h.fb;have H:=tY h.fb;exact⟨h.wf,h.lv,by omega,by omega⟩
theorem DG {K:List It}{R:Ro}(h:Ru t k K n E R):∀{L:List It}{m:Int}{F:List Ev},R=.yes L m F->mG K->fb K->((cL K).length:Int)=n ->
  mG L/\fb L/\((cL L).length:Int)=m/\∃o,F=E++o/\ig (cL K) o=some (cL L)/\(∀e∈o,e.d=cD/\(e.k=1\/e.k=3)/\(e.k=1->e.n≠1))/\o.length<=k:=by
 induction h with
 |nil=>intro L m F h;cases h
 |ref _=>intro L m F h;cases h
 |tk hs=>
  rename_i i K n E
  intro L m F h H I O;cases h;have hl:∀a,i≠.lv a:=fun a e=>by subst e;cases hs
  have e:cL (i :: K)=cL K:=by
   cases i with
   |lv a=>exact absurd rfl (hl a)
   |_=>rfl
  rw[e]at O;exact⟨fun j J=>H j (KA _ J),((dD hl K).1 I).2,O,[],by simp,by rw[e];rfl,fun x u=>by simp at u,Kj _⟩
 |go hs _ ih=>
  rename_i k i K n d E o r R _
  intro L m F h H I O;have hi:=H i (Ko ..);obtain⟨a1,a2,a3,a4⟩:=nR (K:=K) hs hi;obtain⟨b1,b2,b3,o2,b4,b5,b6,b7⟩:=ih h (j7 a1 (fun j J=>H j (KA _ J))) (Dv hs I) (by omega);refine⟨b1,b2,b3,o++o2,by rw[b4,Ks],(eJ o o2 _ _ (wS hs hi)).trans b5,?_,by simp;omega⟩;intro x u
  rcases Lg.1 u with u|u
  ·cases i with
   |fl y=>
    have hm:∃m,y=.mt m:=by
     cases y with
     |mt m=>exact⟨m,rfl⟩
     |_=>simp only[It.step,Fl.step]at hs;split at hs<;>cases hs
    obtain⟨mm,rfl⟩:=hm;have hr:=sQ t mm;simp only[It.step,Fl.step]at hs;cases G:M.row t mm with
    |ref=>rw[G]at hs;cases hs
    |ex r'=>rw[G]at hs;cases hs;simp at u
    |op nd r'=>rw[G]at hs hr;cases hs;simp at u;subst u;exact⟨rfl,.inl rfl,fun _=>by have:=hr.2.2.2.1;show nd≠1;omega⟩
   |lv a=>cases hs;simp at u;subst u;exact⟨rfl,.inr rfl,fun e=>by cases e⟩
   |once p=>cases hs;simp at u
   |again p=>cases hs;simp at u
   |all r'=>cases hs;simp at u
  ·exact b6 x u
theorem GO {K:List It}(h:Ok K n) (G:n=0->K=[]):mG (beg K n)/\fb (beg K n)/\((cL (beg K n)).length:Int)=eM n/\ig (cL K) (ec n)=some (cL (beg K n))/\(beg K n).length<=20000:=by
 have hz:=h.lz;have M:=oT h.fb;have O:=tY h.fb;have I:=h.lv;have J:=h.le
 by_cases u:n=0
 ·obtain rfl:=G u;subst u;refine⟨?_,?_,rfl,rfl,by simp[beg,gY]⟩
  ·intro i F;simp[beg,gY]at F
   rcases F with rfl|rfl|rfl|rfl|rfl|rfl<;>trivial
  ·simp[beg,gY,fb,It.ht,Fl.ht,eO]
 ·have H:(n==0)=false:=by simpa using u
  simp only[beg,eM,ec,H,KE,LP];exact⟨h.wf,h.fb,h.lv,rfl,by omega⟩
def Iu (K:List It):Prop:=∃X,K=X++[.lv 1]
theorem GC {K:List It}{R:Ro}(h:Ru t k K n E R):∀{L:List It}{m:Int}{F:List Ev},R=.yes L m F->Iu K->Iu L:=by
 induction h with
 |nil=>intro L m F h;cases h
 |ref _=>intro L m F h;cases h
 |tk hs=>
  rename_i i K n E
  intro L m F h G;cases h;obtain⟨X,u⟩:=G;cases X with
  |nil=>simp at u;obtain⟨rfl,rfl⟩:=u;cases hs
  |cons j X=>simp at u;exact⟨X,u.2⟩
 |go hs hr ih=>
  rename_i k i K n d E o r R
  intro L m F h G;obtain⟨X,u⟩:=G;cases X with
  |nil=>
   simp at u;obtain⟨rfl,rfl⟩:=u;cases hs;cases hr;cases h
  |cons j X=>
   simp at u;obtain⟨rfl,rfl⟩:=u;exact ih h ⟨r++X,by simp⟩
theorem Hu {K:List It}(h:Iu K):1<=(cL K).length:=by
 obtain⟨X,rfl⟩:=h;rw[cq];simp[cL]
def px:jd->Prop
 |.live K n=>Ok K n/\((n=0/\K=[])\/Iu K)
 |.stuck e n=>e=120\/e=122
 |.shut=>True
theorem px.ok {st:jd}(h:px st):st.ok:=by
 cases st with
 |live K n=>exact h.1.lz
 |stuck e n=>
  show e≠0
  rcases h with rfl|rfl<;>decide
 |shut=>trivial
theorem Bi:px (.live [] 0):=⟨⟨fK,trivial,rfl,by decide⟩,.inl ⟨rfl,rfl⟩⟩
def jd.path:jd->List Int
 |.live K _=>cL K
 |_=>[]
theorem rq {K:List It}(h:px (.live K n)):mG (beg K n)/\fb (beg K n)/\((cL (beg K n)).length:Int)=eM n/\ig (cL K) (ec n)=some (cL (beg K n))/\(beg K n).length<=20000/\Iu (beg K n)/\eM n<=1000/\(ec n).length<=1:=by
 have F:n=0->K=[]:=by
  intro e
  rcases h.2 with u|u
  ·exact u.2
  ·have:=Hu u;have:=h.1.lv;omega
 obtain⟨b1,b2,b3,G,H⟩:=GO h.1 F;have J:=h.1.le;refine⟨b1,b2,b3,G,H,?_,by unfold eM;split<;>omega,by unfold ec;split<;>simp⟩
 by_cases e:n=0
 ·obtain rfl:=F e;subst e;exact⟨gY,by simp[beg]⟩
 ·rcases h.2 with u|u
  ·exact absurd u.1 e
  ·have I:(n==0)=false:=by simpa using e
   simp only[beg,I,KE,LP];exact u
theorem Ad {st st':jd}{I:List Ev}{F:Int}(h:px st) (hp:jZ t st I F st'):px st'/\I.length<=30000/\(F=0->∃K n,st'=.live K n/\Iu K)/\(F=0->ig st.path I=some st'.path):=by
 cases hp with
 |shut=>exact⟨trivial,by simp,fun h=>(by cases h),fun h=>(by cases h)⟩
 |stuck=>exact⟨h,by simp,fun J=>(by subst J;rcases h with h|h<;>cases h),fun J=>(by subst J;rcases h with h|h<;>cases h)⟩
 |note hc=>
  obtain⟨b1,b2,b3,H,b5,u,G,M⟩:=rq h;refine⟨⟨⟨b1,b2,b3,G⟩,.inr u⟩,by simp;omega,fun _=>⟨_,_,rfl,u⟩,fun _=>?_⟩;refine(eJ _ _ _ _ H).trans ?_;simp[ig];rfl
 |no hc hR hk=>exact⟨.inl rfl,by simp,fun h=>(by cases h),fun h=>(by cases h)⟩
 |deep hc hR hk hm=>exact⟨.inr rfl,by simp,fun h=>(by cases h),fun h=>(by cases h)⟩
 |yes hc hR hk hm=>
  obtain⟨b1,b2,b3,H,b5,u,G,M⟩:=rq h;obtain⟨c1,c2,c3,o,c4,c5,c6,c7⟩:=DG hR rfl b1 b2 b3;have O:=GC hR rfl u;refine⟨⟨⟨c1,c2,c3,by omega⟩,.inr O⟩,by rw[c4];simp;omega,fun _=>⟨_,_,rfl,O⟩,fun _=>?_⟩;rw[c4,Ks];refine(eJ _ _ _ _ H).trans ((eJ _ _ _ _ c5).trans ?_);simp[ig];rfl
def PB (W:World) (g:Nat) (c:Bool) (e n:Int) (vs vt:Value):Prop:=W.heap[g]?=some (.cells #[.bool c,.int .i64 e,.int .i64 n,vs,vt] 125 (0,0))
theorem PB.cells {W:World}{g:Nat}{c:Bool}{e n:Int}{vs vt:Value}(h:PB W g c e n vs vt) :
  W.cell? ⟨g,0,none⟩=some (.bool c)/\W.cell? ⟨g,1,none⟩=some (.int .i64 e)/\W.cell? ⟨g,2,none⟩=some (.int .i64 n)/\W.cell? ⟨g,3,none⟩=some vs/\W.cell? ⟨g,4,none⟩=some vt:=
 ⟨aa h rfl,aa h rfl,aa h rfl,aa h rfl,aa h rfl⟩
theorem PB.frozen {W:World}{g:Nat}{c:Bool}{e n:Int}{vs vt:Value}(h:PB W g c e n vs vt) (j:Nat):W.frozen? ⟨g,j,none⟩=false:=aj h
theorem PB.kp {S:Nat->Prop}{W W':World}{g:Nat}{c:Bool}{e n:Int}{vs vt:Value}(h:PB W g c e n vs vt) (F:Kp S W W') (u:¬S g):PB W' g c e n vs vt:=F.blk h u
theorem PB.below (h:PB W g c e n vs vt) (u:Below W.heap.size W W'):PB W' g c e n vs vt:=af h u
theorem PB.lt {W:World}{g:Nat}{c:Bool}{e n:Int}{vs vt:Value}(h:PB W g c e n vs vt):g<W.heap.size:=ai h
theorem Am {J:Array Oper}{o:Oper}{K:Act->World->Prop}{Q:Exit->Act->World->Prop}{E:Prop}(F:o.guard=none) (s x:Operand)
  (ho:o.op=.call { callee:=.builtin .append,args:=#[s,x],argTypes:=#[78,78] }) (v:Value) (l:List Ev) (d:Ev) (hs:a.eval s=v) (hr:Re W v l)
  (g c:Nat) (hx:a.eval x=.slice (some ⟨g,0,none⟩) 1 c) (hg:W.heap[g]?=some (.cells #[.int .u8 d.k,.int .u8 d.n,.int .u8 d.d.k,.string d.d.t,.int .i64 d.d.a,.int .i64 d.d.l,.int .i64 d.d.c,.int .i64 d.d.f] 135 (0,0))) (hl:l.length<=1000000000)
  (h:∀q cap w',Re w' (.slice (some ⟨q,0,none⟩) (l.length+1) cap) (l++[d])->W.grownBy w' v.ownBlock->(v.ownBlock=some q\/q=W.heap.size)->K (a.put o.dst (.slice (some ⟨q,0,none⟩) (l.length+1) cap)) w') :
  if Region.wanted o (yielded J a.tmps)=true then Oper.wp Tryz.prog o a W K Q else E:=by
 obtain⟨i0,hi,G,H,I⟩:=LJ Tryz.info135;refine NU W F s x 78 ho 0 135 i0 _ 8 64 underlying78 hi G H I rfl (by decide) v _ _ hs hr ⟨g,0,none⟩ 1 c (BO [d]) hx (by rw[EP];rfl) ?_ (EO [d]) (by omega) (by unfold maxLen;omega) (by omega) (Kj _) _ rfl ?_
 ·intro j u M;refine LW hg j u ?_;have e:BO [d]=[.int .u8 d.k,.int .u8 d.n,.int .u8 d.d.k,.string d.d.t,.int .i64 d.d.a,.int .i64 d.d.l,.int .i64 d.d.c,.int .i64 d.d.f]:=by simp[BO,au,Ev.cs]
  rw[e]at M
  simpa using M
 ·intro q cap w' O a2 a3 _;refine h q cap w' ?_ a2 a3;unfold Re;rw[Kf,EQ];exact O
structure cB (W W':World) (g:Nat) (c:Bool) (e n:Int) (vs vt:Value) (E:List Ev):Prop where
 ex:∃vt',PB W' g c e n vs vt'/\Re W' vt' E/\Nb W vt vt'
 kp:Kp (fun k=>k=g\/vt.ownBlock=some k) W W'
theorem Dd {W1 u:World}{J:List Ev}(h:PB W g c e n vs vt) (hE:Re W vt E) (H:Below W.heap.size W W1) {q cap n':Nat}(hr:Re u (.slice (some ⟨q,0,none⟩) n' cap) J) (O:W1.grownBy u vt.ownBlock) (F:vt.ownBlock=some q\/q=W1.heap.size) :
  (u.cell? ⟨g,4,none⟩=some vt/\u.frozen? ⟨g,4,none⟩=false)/\cB W (u.setCell ⟨g,4,none⟩ (.slice (some ⟨q,0,none⟩) n' cap)) g c e n vs vt J:=by
 have M:=h.below H;have I:¬some g=vt.ownBlock:=fun e=>(hE.below H).ne M (by decide) g e.symm rfl
 have G:PB u g c e n vs vt:=M.kp (Kp.of_grown O) I;refine⟨⟨aa G rfl,G.frozen 4⟩,⟨⟨.slice (some ⟨q,0,none⟩) n' cap,ab G 4 _,hr.kp (Kp.set _ _ _ _) (hr.ne G (by decide)),?_⟩,?_⟩⟩
 ·rcases F with F|F
  ·exact .inl F.symm
  ·exact .inr ⟨q,rfl,by rw[F];exact H.size⟩
 ·exact((Kp.of_below H).step (Kp.of_grown O) (fun k _ e=>.inr e.symm)).step (Kp.set _ _ _ _) (fun k _ e=>.inl e)
theorem xk (h:PB W g c e n vs vt) (hE:Re W vt E) (d:Ev) (hl:E.length<=1000000000) :
  Kb 97 #[.pointer (some ⟨g,0,none⟩),d.v] W fun r w'=>r=.returned (.tuple #[])/\cB W w' g c e n vs vt (E++[d]):=by
 obtain⟨p,cap,rfl,_⟩:=hE.shape;have HW:=ku fun V (u:Below W.heap.size W V)=>hE.below u
 have HT:Hid (∀W1 G q H,Below W.heap.size W W1->Re G (.slice (some ⟨q,0,none⟩) (E.length+1) H) (E++[d])->W1.grownBy G (Value.slice p E.length cap).ownBlock->((Value.slice p E.length cap).ownBlock=some q\/q=W1.heap.size)->(G.cell? ⟨g,4,none⟩=some (.slice p E.length cap)/\G.frozen? ⟨g,4,none⟩=false)/\cB W (G.setCell ⟨g,4,none⟩ (.slice (some ⟨q,0,none⟩) (E.length+1) H)) g c e n vs (.slice p E.length cap) (E++[d])):=
  fun W1 G q H u h1 h2 h3=>Dd h hE u h1 h2 h3
 obtain⟨c0,c1,c2,c3,c4⟩:=h.cells;have hf:=h.frozen 4;have hg:=h.lt;clear h hE
 dsimp only[Ev.v]
 obtain⟨⟨k0,n0,⟨k1,t,a,l,cc,f⟩⟩,hd⟩:∃x,d=x:=⟨_,rfl⟩;subst hd
 go_enter func97,ntmps97
 go_wp2_with fail
 obtain⟨W1,O⟩:∃W1,W.alloc (.cells #[.int .u8 k0,.int .u8 n0,.int .u8 k1,.string t,.int .i64 a,.int .i64 l,.int .i64 cc,.int .i64 f] 135)=W1:=⟨_,rfl⟩;have u:Below W.heap.size W W1:=by rw[<-O];exact(gt _ _).alloc (ge _) _
 have F:W1.heap[W.heap.size]?=some (.cells #[.int .u8 k0,.int .u8 n0,.int .u8 k1,.string t,.int .i64 a,.int .i64 l,.int .i64 cc,.int .i64 f] 135):=by rw[<-O];exact am _ _
 rw[O];clear O;have m0:W1.cell? ⟨W.heap.size,0,none⟩=_:=aa F rfl;have m1:W1.cell? ⟨W.heap.size,1,none⟩=_:=aa F rfl;have m2:W1.cell? ⟨W.heap.size,2,none⟩=_:=aa F rfl;have m3:W1.cell? ⟨W.heap.size,3,none⟩=_:=aa F rfl;have m4:W1.cell? ⟨W.heap.size,4,none⟩=_:=aa F rfl;have m5:W1.cell? ⟨W.heap.size,5,none⟩=_:=aa F rfl;have m6:W1.cell? ⟨W.heap.size,6,none⟩=_:=aa F rfl;have m7:W1.cell? ⟨W.heap.size,7,none⟩=_:=aa F rfl;have d4:W1.cell? ⟨g,4,none⟩=some (.slice p E.length cap):=(u.cell hg).trans c4;have HB:Hid (∀o,Below W.heap.size W (W1.drew.alloc o)):=fun o=>(u.drew).alloc u.size _
 have ab:g<W1.heap.size:=Kl hg u.size;clear u F c0 c1 c2 c3 c4 hf hg
 go_region_law (refine Am (by rfl) _ _ (by rfl) (.slice p E.length cap) E ⟨k0,n0,⟨k1,t,a,l,cc,f⟩⟩ (by rfl) (HW.out _ (HB.out _)) W1.heap.size 1 (by rfl) (am W1.drew _) hl ?_;intro q H G M I J;obtain⟨⟨x1,x2⟩,x3⟩:=HT.out _ G q H (HB.out _) M I J;have HX:=ku x3;clear x3 M I J)
 all_goals(
  go_wp2_with fail
  go_end0
  exact⟨rfl,HX.out⟩)
def Ls (W:World) (ao:Option Addr) (l:List ByteArray):Prop:=∀j s,l[j]?=some s->∃b off,ao=some ⟨b,off,none⟩/\W.cell? ⟨b,off+j,none⟩=some (.string s)
theorem Ls.kp {S:Nat->Prop}{w w':World}{ao:Option Addr}{l:List ByteArray}(h:Ls w ao l) (J:Kp S w w') (H:∀a,ao=some a->¬S a.block):Ls w' ao l:=by
 intro j a I;obtain⟨b,F,G,c0⟩:=h j a I;have u:=Kg _ _ c0;have e:w'.heap[b]?=w.heap[b]?:=J.block b u (H _ G);exact⟨b,F,G,(Kn (a:=⟨b,_,none⟩) e).trans c0⟩
theorem Ls.below {ao:Option Addr}{l:List ByteArray}(h:Ls w ao l) (u:Below w.heap.size w w'):Ls w' ao l:=h.kp (Kp.of_below (S:=fun _=>False) u) (fun _ _ h=>h)
theorem Bc (l:List ByteArray) (s x:ByteArray) (k:Nat) (u:l[k]?=some x) (h:lD (l.take k) s=false):lD (l.take (k+1)) s=(s.toList==x.toList):=by
 rw[Ht];unfold lD at h ⊢;rw[NK,u,List.any_append,h];simp
theorem Bb (l:List ByteArray) (s:ByteArray) (k:Nat) (h:lD (l.take k) s=true):lD l s=true:=by
 unfold lD at h ⊢;simp only[O0]at h ⊢;obtain⟨x,u,e⟩:=h;exact⟨x,List.mem_of_mem_take u,e⟩
theorem sP (ao:Option Addr) (l:List ByteArray) (cap:Nat) (s:ByteArray) (W:World) (h:Ls W ao l) (hl:l.length<=1000) :
  Kb 233 #[.slice ao l.length cap,.string s] W fun r w'=>(∃z:Int,r=.returned (.int .i64 z)/\(decide (0<=z)=lD l s))/\w'=W:=by
 have H:=ku h;clear h
 go_enter func233,ntmps233
 go_wp2_with fail
 go_loopw [5,8] (fun _ i wr=>∃k:Nat,k<=l.length/\i=.int .i64 k/\Hid (lD (l.take k) s=false)/\wr=W) (fun _ i _=>l.length-(intOf i).toNat)
 case atStart=>exact⟨0,Kj _,rfl,by show lD _ _=_;simp[lD],rfl⟩
 case round=>
  obtain⟨k,hk,rfl,HI,rfl⟩:=hrel
  by_cases u:k<l.length
  ·have O:(k:Int)<l.length:=by omega
   have q0:(0:Int)<=k:=by omega
   obtain⟨x,G⟩:∃x,l[k]?=some x:=⟨_,Ke u⟩;obtain⟨b,off,rfl,hc⟩:=H.out k x G;have J:=ku (Bc l s x k G HI.out);have M:Hid (lD (l.take (k+1)) s=true->lD l s=true):=Bb l s _;clear G
   by_cases F:(s.toList==x.toList)=true
   ·go_wp2_with fail
    go_ret
    exact⟨⟨_,rfl,by rw[M.out (J.out.trans F)];simp⟩,rfl⟩
   ·have I:(s.toList==x.toList)=false:=by simpa using F
    clear F
    go_wp2_with fail
    exact⟨⟨k+1,u,by go_num,J.out.trans I,trivial⟩,by simp[intOf];omega⟩
  ·obtain rfl:k=l.length:=by omega
   have O:¬((l.length:Int)<l.length):=by omega
   go_wp2_with fail
   go_ret
   refine⟨⟨_,rfl,?_⟩,rfl⟩;have:=HI.out;rw[L6]at this;rw[this];rfl
theorem mb (ao:Option Addr) (l:List ByteArray) (cap:Nat) (s:ByteArray) (W:World) (h:Ls W ao l) (hl:l.length<=1000) :
  Kb 175 #[.slice ao l.length cap,.string s] W fun r w'=>r=.returned (.bool (lD l s))/\w'=W:=by
 have H:=ku (sP ao l cap s W h hl);clear h
 generalize lD l s=b at *
 go_enter func175,ntmps175
 go_wp2_with(go_at_call 233;refine H.out.mono ?_;rintro r F⟨⟨z,rfl,u⟩,rfl⟩;subst u)
 go_ret
 exact⟨by simp,rfl⟩
def dd (b:Bool):Int:=if b then 2 else 0
theorem cF (b:Bool) (W:World):Kb 138 #[.bool b] W fun r w'=>r=.returned (.int .i64 (dd b))/\w'=W:=by
 cases b
 ·go_enter func138,ntmps138
  go_wp2_with fail
  go_ret
  exact⟨rfl,rfl⟩
 ·go_enter func138,ntmps138
  go_wp2_with fail
  go_ret
  exact⟨rfl,rfl⟩
theorem AM (t:Tv) (W:World):Kb 94 #[t.v] W fun r w'=>r=.returned (.int .i64 (dd (t.k==1)))/\Kc W w':=by
 dsimp only[Tv.v]
 go_enter func94,ntmps94
 go_wp2_with(go_at_call 138;refine(cF _ _).mono ?_;rintro r u⟨rfl,rfl⟩)
 go_ret
 exact⟨rfl,(gt _ _).alloc (ge _) _⟩
theorem iP (t:Tv) (W:World):Kb 307 #[t.v] W fun r w'=>r=.returned (.int .i64 (dd (t.k==3||t.k==4||t.k==5)))/\Kc W w':=by
 dsimp only[Tv.v]
 by_cases F:(t.k==3)=true
 ·rw[F]
  go_enter func307,ntmps307
  go_wp2_with(go_at_call 138;refine(cF _ _).mono ?_;rintro r I⟨rfl,rfl⟩)
  go_ret
  exact⟨rfl,(gt _ _).alloc (ge _) _⟩
 ·have u:(t.k==3)=false:=by simpa using F
  clear F
  by_cases G:(t.k==4)=true
  ·rw[u,G]
   go_enter func307,ntmps307
   go_wp2_with(go_at_call 138;refine(cF _ _).mono ?_;rintro r I⟨rfl,rfl⟩)
   go_ret
   exact⟨rfl,(gt _ _).alloc (ge _) _⟩
  ·have H:(t.k==4)=false:=by simpa using G
   clear G;rw[u,H]
   go_enter func307,ntmps307
   go_wp2_with(go_at_call 138;refine(cF _ _).mono ?_;rintro r I⟨rfl,rfl⟩)
   go_ret
   exact⟨rfl,(gt _ _).alloc (ge _) _⟩
theorem mR (k:Int) (ao:Option Addr) (l:List ByteArray) (cap:Nat) (t:Tv) (W:World) (h:Ls W ao l) (hl:l.length<=1000) :
  Kb 137 #[.agg #[.int .u8 k,.slice ao l.length cap],t.v] W fun r w'=>r=.returned (.int .i64 (dd (t.k==k&&lD l t.t)))/\Below W.heap.size W w':=by
 have H:=ku fun V (J:Kc W V)=>mb ao l cap t.t V (h.below J) hl
 clear h
 dsimp only[Tv.v]
 generalize lD l t.t=b at *
 have u:Hid (Kc W ((W.alloc (.cells #[.int .u8 k,.slice ao l.length cap] 234)).alloc (.cells #[.int .u8 t.k,.string t.t,.int .i64 t.a,.int .i64 t.l,.int .i64 t.c,.int .i64 t.f] 76))):=((gt _ _).alloc (ge _) _).alloc (by rw[Eq];exact Of _) _
 by_cases F:(t.k==k)=true
 ·rw[F,MT]
  go_enter func137,ntmps137
  go_wp2_with(first|(go_at_call 175;refine(H.out _ u.out).mono ?_;rintro r I⟨rfl,rfl⟩)|(go_at_call 138;refine(cF _ _).mono ?_;rintro r I⟨rfl,rfl⟩))
  go_ret
  exact⟨rfl,u.out⟩
 ·have G:(t.k==k)=false:=by simpa using F
  clear F;rw[G,Oy]
  go_enter func137,ntmps137
  go_wp2_with(first|(go_at_call 138;refine(cF _ _).mono ?_;rintro r I⟨rfl,rfl⟩))
  go_ret
  exact⟨rfl,u.out⟩
abbrev aF (k:Int) (v:Value):Value:=.func (.func 137) #[.agg #[.int .u8 k,v]] #[]
theorem Eo (v:Value) (W:World) (p:Option Addr) (n c:Nat) (u:v=.slice p n c):Kb 93 #[v] W fun r w'=>r=.returned (aF 2 v)/\w'=W:=by
 subst u;have F:=mkfn
 go_enter func93,ntmps93
 go_wp2_with fail
 go_ret
 exact⟨rfl,rfl⟩
theorem zM (v:Value) (W:World) (p:Option Addr) (n c:Nat) (u:v=.slice p n c):Kb 95 #[v] W fun r w'=>r=.returned (aF 6 v)/\w'=W:=by
 subst u;have F:=mkfn
 go_enter func95,ntmps95
 go_wp2_with fail
 go_ret
 exact⟨rfl,rfl⟩
open Go.RowKit Go.Shelf
attribute [local go_sem] Oper.semAt_some
def Jt (F:Fence) (n:Nat) (P:Program) (gf:Nat) (lb:Array Value) (it:Nat->Array Value) (N:Nat) (G:World->Prop):Prop:=
 ∀(l:Nat) (J:Nat->World->Prop) (W:World),(∀j W,J j W->G W)->AbidesFrom W.heap.size J->(∀j W1,j<N->J j W1->YieldAt F (n-1) P l (it j) W1 fun e W'=>e=.returned (.bool true)/\J (j+1) W')->J 0 W ->
  CallsIn F n P gf (#[.func (.yield l) #[] #[]]++lb) W fun e W'=>(∃v,e=.returned v)/\J N W'
theorem wD {F:Fence}{n:Nat}{P:Program}{g:Operand}{ps:Array Tmp}{assign body:Code}{Q:Exit->Act->World->Prop}(hro:F.round=none) (h1:1<=n) {gf:Nat}{lb:Array Value}(hg:a.eval g=.func (.func gf) #[] lb) (hF:F.fn gf)
  (eg:∀args w,(callFunc gf args).run P w=.ok (.enter gf args) w) {it:Nat->Array Value} {N:Nat} {G:World->Prop} (oK:Jt F (n-1) P gf lb it N G) (hps:∀j,(it j).size=ps.size)
  (I:Nat->World->Prop) (hI:OwnFrom w.heap.size I) (hG:∀j W,I j W->G W) (h0:I 0 w) (Ax:Nat->Act->World->Prop) (hAx:∀j a',OwnFrom w.heap.size (fun(_:Unit) W=>Ax j a' W))
  (hassign:∀(l j:Nat) (W:World) (K:Act->World->Prop),j<N->I j W->(∀a' W',KeepsFrom w.heap.size W W'->I j W'->Ax j a' W'->K a' W') ->
   assign.wpIn (F.inRound l) (n-1-1) P (Exit.then K (fun _ _ _=>False)) { tmps:=(ps.zip (it j)).foldl (fun t (p,v)=>t.setIfInBounds p v) a.tmps,defers:=[] } W)
  (hbody:∀(l j:Nat) (a':Act) (W:World),j<N->I j W->Ax j a' W->body.wpIn (F.inRound l) (n-1-1) P (fun e _ W'=>e=.normal/\KeepsFrom w.heap.size W W'/\I (j+1) W') a' W)
  (hdone:∀(D:Nat) (W:World),w.heap.size<=D->I N W->W.heap[D]?=some (.deferred (some []))->Q .normal { a with defers:={ target:=.collected D,args:=#[] } :: a.defers } W) :
  (Code.rangeFunc g ps assign body).wpIn F n P Q a w:=by
 refine wpIn_rangeFunc fun fn hfn=>?_
 rw[hro];obtain⟨L,hL⟩:∃L:LoopState->Loop,∀st,L st={ state:=st,pending:=none,fn,tmps:=a.tmps,params:=ps,assign,body,defers:=w.heap.size }:=⟨_,fun _=>rfl⟩;have hent:=run_enterLoop_outer (P:=P) (w:=w) fn a.tmps ps assign body;rw[<-hL]at hent;obtain⟨V,hV⟩:∃V,(w.alloc (.deferred (some []))).alloc (.loop (L .ready))=V:=⟨_,rfl⟩;rw[hV]at hent;have e1:(w.alloc (.deferred (some []))).heap.size=w.heap.size+1:=Eq _ _;have vr:V.heap[w.heap.size+1]?=some (.loop (L .ready)):=by rw[<-hV,<-e1];exact am _ _
 have vd:V.heap[w.heap.size]?=some (.deferred (some [])):=by rw[<-hV];exact bB (am _ _) _
 have vs:w.heap.size+2<=V.heap.size:=by rw[<-hV,Eq,e1];exact ge _
 have vi:I 0 V:=by rw[<-hV];exact hI.alloc _ (hI.alloc _ h0)
 refine⟨w.heap.size+1,_,V,{ target:=.fn (.func gf) lb,args:=#[.func (.yield (w.heap.size+1)) #[] #[]] },V,gf,#[.func (.yield (w.heap.size+1)) #[] #[]]++lb,V,hent,?_,?_,?_,fun _=>h1,?_⟩
 ·simp only[resolve,hg];simp[go_sem]
 ·intro f' hf';simp[Target.leads]at hf';subst hf';exact hF
 ·simp[invoke,go_sem,eg]
 refine(oK (w.heap.size+1) (fun j W=>I j W/\W.heap[w.heap.size+1]?=some (.loop (L .ready))/\W.heap[w.heap.size]?=some (.deferred (some []))) V (fun j W h=>hG j W h.1) ?_ ?_ ⟨vi,vr,vd⟩).mono ?_
 ·intro j A B row hs hgr hr;refine⟨hI j A B row hs.1 hgr fun r e=>?_,(grownBy_keeps hgr (fun r e=>(hr r e).2) hs.2.1 rfl).trans hs.2.1,(grownBy_keeps hgr (fun r e=>(hr r e).2) hs.2.2 rfl).trans hs.2.2⟩;obtain⟨hb,o,ho,hw⟩:=hr r e;exact⟨by omega,o,ho,Obj.not_cells_of_walk hw⟩
 ·rintro j W hj⟨hi,hr,hd⟩;have hy:=run_yield (P:=P) (args:=it j) hr (by rw[hL];exact hps j);rw[hL]at hy;refine⟨fn,_,assign,body,hy,roundIn_of_wpIn hfn (hassign _ j W _ hj hi ?_)⟩;intro a' W' hk hi' hax;have hr':=hk.same _ _ (by omega) hr rfl;have hd':=hk.same _ _ (ge _) hd rfl;have hlt:=ai hr';refine⟨_,run_beginRound hr' (by rw[hL]),?_⟩;obtain⟨W2,hW2⟩:∃W2,W'.putObj (w.heap.size+1) (.loop { L .ready with state:=.busy })=W2:=⟨_,rfl⟩;have r2:W2.heap[w.heap.size+1]?=some (.loop { L .ready with state:=.busy }):=by rw[<-hW2];exact World.putObj_heap_same hlt
  have d2:W2.heap[w.heap.size]?=some (.deferred (some [])):=by rw[<-hW2];exact(World.putObj_heap_other (by omega)).trans hd'
  have i2:I j W2:=by rw[<-hW2];exact hI.putObj _ hi' (by omega) hr' rfl
  have x2:Ax j a' W2:=by rw[<-hW2];exact(hAx j a').putObj (s:=()) _ hax (by omega) hr' rfl
  rw[hW2];refine wpIn_mono (hbody _ j a' W2 hj i2 x2) ?_;rintro e a3 W3⟨rfl,hk3,i3⟩;have r3:=hk3.same _ _ (by omega) r2 rfl;have d3:=hk3.same _ _ (ge _) d2 rfl;have hend:=run_endRound (P:=P) none r3;rw[hL]at hend;refine⟨_,_,hend,rfl,hI.putObj _ i3 (by omega) r3 rfl,?_,(World.putObj_heap_other (by omega)).trans d3⟩;rw[World.putObj_heap_same (ai r3),hL];rfl
 ·rintro e W⟨⟨v,rfl⟩,hi,hr,hd⟩;have hend:=run_endLoop (P:=P) hr (by rw[hL];simp);rw[hL]at hend;exact⟨none,_,hend,hdone _ _ (ge _) (hI.putObj _ hi (by omega) hr rfl) ((World.putObj_heap_other (by omega)).trans hd)⟩
attribute [local go_sem] Oper.semAt_some
theorem A0 (h:Kc w w'):KeepsOthers w w':=⟨h.size,fun k o u _=>(h.block k (ai u)).trans u⟩
theorem I0 {S:Nat->Prop}(h:Kp S w w') (G:∀k,S k->∀o,w.heap[k]?=some o->o.isCells=true):KeepsOthers w w':=
 ⟨h.size,fun k o u F=>h.blk u (fun H=>by rw[G k H o u]at F;cases F)⟩
theorem fP {row:Option Nat}(F:W.grownBy W' row) (u:∀r,row=some r->∃o:Obj,W.heap[r]?=some o/\o.isCells=false) {k:Nat}{cs:Array Value}{T:TypeId}{f:Nat × Nat}(h:W.heap[k]?=some (.cells cs T f)):W'.heap[k]?=some (.cells cs T f):=
 (grownBy_keeps_cells F u h rfl).trans h
theorem yi {row:Option Nat}(M:W.grownBy W' row) (u:∀r,row=some r->∃o:Obj,W.heap[r]?=some o/\o.isCells=false) {e sz n:Nat}{v:Value}{xs:List Value}(h:W.ownsRow 0 e sz v n xs):W'.ownsRow 0 e sz v n xs:=by
 refine⟨h.1,?_⟩
 rcases h.2 with J|⟨g,cap,F,rfl,G,H,I⟩
 ·exact .inl J
 ·exact .inr ⟨g,cap,F,rfl,G,fP M u H,I⟩
def Lv (W:World) (ao:Option Addr) (l:List Value):Prop:=∀j s,l[j]?=some s->(∃fn fi ca,s=.func fn fi ca)/\∃b off,ao=some ⟨b,off,none⟩/\W.cell? ⟨b,off+j,none⟩=some s
theorem Lv.kp {S:Nat->Prop}{w w':World}{ao:Option Addr}{l:List Value}(h:Lv w ao l) (M:Kp S w w') (I:∀a,ao=some a->¬S a.block):Lv w' ao l:=by
 intro j a J;obtain⟨H,b,F,G,c0⟩:=h j a J;have u:=Kg _ _ c0;have e:w'.heap[b]?=w.heap[b]?:=M.block b u (I _ G);exact⟨H,b,F,G,(Kn (a:=⟨b,_,none⟩) e).trans c0⟩
theorem pj (ao:Option Addr) (n cap:Nat) (w:World):Kb 174 #[.slice ao n cap] w fun e w'=>e=.returned (.func (.func 232) #[] #[.pointer (some ⟨w.heap.size,0,none⟩)])/\w'=w.alloc (.cells #[.slice ao n cap] 123):=by
 have u:=mkfn
 go_enter func174,ntmps174
 go_wp2_with fail
 go_ret
 exact⟨rfl,rfl⟩
def Jz (l:List Value) (j:Nat):Array Value:=#[.int .i64 ((l.length-1-j:Nat):Int),l.getD (l.length-1-j) .nilFunc]
set_option maxRecDepth 100000 in
theorem mx (n:Nat) (hn:1<=n) (Bn:Nat) (ao:Option Addr) (l:List Value) (cap:Nat) (hl:l.length<=1000000) :
  Jt Fence.wide n Tryz.prog 232 #[.pointer (some ⟨Bn,0,none⟩)] (Jz l) l.length (fun W=>W.cell? ⟨Bn,0,none⟩=some (.slice ao l.length cap)/\Lv W ao l):=by
 intro lp J W hG hA hY h0;refine callsIn_of_wp func232 rfl trivial ?_ rfl;simp only[ntmps232,NE,List.length_cons,LB,Nat.reduceAdd,Nat.reduceSub,MW,MX,NF,Nc,LA,KF];have g0:=(hG 0 W h0).1;have ac:(l.length:Int)<=1000000:=by omega
 gi_wp2
 gi_loopw [3] (fun i wr=>∃(j:Nat) (z:Int),i=.int .i64 z/\z=(l.length:Int)-1-j/\j<=l.length/\J j wr) (fun i _=>(intOf i+1).toNat)
 case atStart=>exact⟨0,_,by go_num,by omega,Kj _,h0⟩
 case round=>
  obtain⟨j,z,rfl,hz,hj,H⟩:=hrel
  by_cases F:j<l.length
  ·obtain⟨k,hk⟩:∃k:Nat,z=k:=⟨z.toNat,by omega⟩;subst hk;have M:k<l.length:=by omega
   have u:l.length-1-j=k:=by omega
   obtain⟨d,hd⟩:∃d,l[k]?=some d:=⟨_,Ke M⟩;obtain⟨gc,gL⟩:=hG j wr H;obtain⟨ht,b,off,rfl,c0⟩:=gL k d hd;have q1:(0:Int)<=k:=by omega
   have q2:(k:Int)<l.length:=by omega
   have oK:Jz l j=#[.int .i64 (k:Int),d]:=by
    unfold Jz;rw[u,MV,hd];rfl
   obtain⟨fn,ab,G,aa,hy,hR⟩:=hY j wr F H;rw[oK]at hy;have HJ:Hid (l.length-1-j=k/\j<l.length):=⟨u,F⟩;clear hz oK u F hd
   gi_wp2
   refine hR.mono ?_;rintro e W3⟨rfl,I⟩
   gi_wp2
   go_roundw
   case rel=>exact⟨j+1,(k:Int)-1,by go_num,by have:=HJ.out;omega,by have:=HJ.out;omega,I⟩
   case measure=>simp[RowKit.intOf]
  ·obtain rfl:j=l.length:=by omega
   have O:z=-1:=by omega
   subst O;clear hz
   gi_wp2
   go_end0
   exact⟨⟨_,rfl⟩,H⟩
