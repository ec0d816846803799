import Derived.Deep.RegionHeld3
import Derived.Deep.RegionWith
import Derived.WalkMore
import Derived.Test.YtpdlohfdjiaegaaGreatDoorR01
set_option linter.unusedVariables false
set_option linter.unusedSimpArgs false
namespace Go.Proofs.YtpdlohfdjiaegaaGreatDoor
open Go.RowKit
variable {n e code d:Int}{t:Tv}{E o:List Ev}{W:World}{g k:Nat}{c:Bool}{vs vt:Value}
inductive M|block|variables|constants|procedure|params|param|typed|kind|member|body|statement|expr|rel|sum|term|factor|object|index|selection|args|list
deriving DecidableEq
inductive Dk|declaration|bracket|detail
deriving DecidableEq
inductive Fl|wd (k:Int) (ts:List ByteArray)|nm|cs|mt (m:M)
inductive Pk|fn (d:Dk)|row (r:List Fl)|ex (m:M)
inductive It|fl (x:Fl)|lv (n:Int)|once (p:Pk)|again (p:Pk)|all (r:List Fl)
theorem wn {a b:ByteArray}(h:a.toList=b.toList):a=b:=by
 rw [Ca,Ca] at h;have:=Bh.1 h;cases a;cases b;simp_all
theorem yg (a b:ByteArray):(a.toList == b.toList)=decide (a=b):=by
 by_cases e:a=b
 ·subst e;simp
 ·have:¬a.toList=b.toList:=fun h=>e (wn h)
  simp [e,this]
def has (l:List ByteArray) (s:ByteArray):Bool:=l.any (fun x=>decide (s=x))
def Tv.is (t:Tv) (l:List UInt8):Bool:=t.t.toList == l
def Fl.takes (t:Tv):Fl->Bool
 |.wd k ts=>t.k == k && has ts t.t
 |.nm=>t.k == 1
 |.cs=>t.k == 3 || t.k == 4 || t.k == 5
 |.mt _=>false
def cQ (t:Tv):Int:=
 if t.k == 6 && t.is [45] then 25 else if t.k == 2 && t.is [110,111,116] then 26 else if t.k == 6 && t.is [40] then 27
 else if t.k == 3 || t.k == 4 || t.k == 5 then 32 else if t.k == 1 then 28 else 0
def Dk.pick (t:Tv):Dk->Option M
 |.declaration=>if t.is [118,97,114] then some .variables else if t.is [99,111,110,115,116] then some .constants else if t.is [112,114,111,99] then some .procedure else none
 |.bracket=>if t.is [40] then some .params else none
 |.detail=>if t.is [91] then some .index else if t.is [46] then some .selection else if t.is [40] then some .args else none
def Pk.pick (t:Tv):Pk->Option It
 |.fn d=>(d.pick t).map (fun m=>.fl (.mt m))
 |.row r=>if (r.head?.elim false (fun x=>x.takes t)) then some (.all r) else none
 |.ex m=>if cQ t == 0 then none else some (.fl (.mt m))
def agR (p:Pk):Option It->List It
 |none=>[]
 |some i=>[i,.again p]
inductive Gw|ref|ex (r:List It)|op (n:Int) (r:List It)
def bA (s:ByteArray):Gw:=
 if s.toList == [115,107,105,112] then .op 13 [.fl (.wd 2 [s])]
 else if s.toList == [105,102] then .op 15 [.fl (.wd 2 [s]),.fl (.mt .expr),.fl (.wd 2 [⟨#[116,104,101,110]⟩]),.fl (.mt .body),.again (.row [.wd 2 [⟨#[101,108,105,102]⟩],.mt .expr,.wd 2 [⟨#[116,104,101,110]⟩],.mt .body]),.once (.row [.wd 2 [⟨#[101,108,115,101]⟩],.mt .body]),.fl (.wd 2 [⟨#[101,110,100]⟩])]
 else if s.toList == [119,104,105,108,101] then .op 16 [.fl (.wd 2 [s]),.fl (.mt .expr),.fl (.wd 2 [⟨#[100,111]⟩]),.fl (.mt .body),.fl (.wd 2 [⟨#[101,110,100]⟩])]
 else if s.toList == [102,111,114] then .op 17 [.fl (.wd 2 [s]),.fl (.nm),.fl (.wd 6 [⟨#[58,61]⟩]),.fl (.mt .expr),.fl (.wd 2 [⟨#[116,111]⟩]),.fl (.mt .expr),.fl (.wd 2 [⟨#[100,111]⟩]),.fl (.mt .body),.fl (.wd 2 [⟨#[101,110,100]⟩])]
 else if s.toList == [114,101,112,101,97,116] then .op 18 [.fl (.wd 2 [s]),.fl (.mt .body),.fl (.wd 2 [⟨#[117,110,116,105,108]⟩]),.fl (.mt .expr)]
 else if s.toList == [114,101,116,117,114,110] then .op 19 [.fl (.wd 2 [s]),.once (.ex .expr)]
 else if s.toList == [98,101,103,105,110] then .op 20 [.fl (.wd 2 [s]),.fl (.mt .body),.fl (.wd 2 [⟨#[101,110,100]⟩])]
 else .ref
def M.row (t:Tv):M->Gw
 |.block=>.op 2 [.again (.fn .declaration),.fl (.wd 2 [⟨#[98,101,103,105,110]⟩]),.fl (.mt .body),.fl (.wd 2 [⟨#[101,110,100]⟩])]
 |.variables=>.op 3 [.fl (.wd 2 [⟨#[118,97,114]⟩]),.fl (.mt .typed),.fl (.wd 6 [⟨#[59]⟩])]
 |.constants=>.op 4 [.fl (.wd 2 [⟨#[99,111,110,115,116]⟩]),.fl (.nm),.fl (.wd 6 [⟨#[61]⟩]),.fl (.mt .expr),.fl (.wd 6 [⟨#[59]⟩])]
 |.params=>.op 6 [.fl (.wd 6 [⟨#[40]⟩]),.fl (.mt .param),.again (.row [.wd 6 [⟨#[59]⟩],.mt .param]),.fl (.wd 6 [⟨#[41]⟩])]
 |.param=>.op 7 [.fl (.mt .typed)]
 |.typed=>.ex [.fl (.nm),.again (.row [.wd 6 [⟨#[44]⟩],.nm]),.fl (.wd 6 [⟨#[58]⟩]),.fl (.mt .kind)]
 |.member=>.op 11 [.fl (.mt .typed)]
 |.body=>.op 12 [.fl (.mt .statement),.again (.row [.wd 6 [⟨#[59]⟩],.mt .statement])]
 |.expr=>.op 21 [.fl (.mt .rel),.again (.row [.wd 2 [⟨#[97,110,100]⟩,⟨#[111,114]⟩],.mt .rel])]
 |.rel=>.op 22 [.fl (.mt .sum),.once (.row [.wd 6 [⟨#[61]⟩,⟨#[35]⟩,⟨#[60]⟩,⟨#[60,61]⟩,⟨#[62]⟩,⟨#[62,61]⟩],.mt .sum])]
 |.sum=>.op 23 [.fl (.mt .term),.again (.row [.wd 6 [⟨#[43]⟩,⟨#[45]⟩],.mt .term])]
 |.term=>.op 24 [.fl (.mt .factor),.again (.row [.wd 6 [⟨#[42]⟩,⟨#[47]⟩,⟨#[37]⟩],.mt .factor])]
 |.object=>.op 28 [.fl (.nm),.again (.fn .detail)]
 |.index=>.op 29 [.fl (.wd 6 [⟨#[91]⟩]),.fl (.mt .list),.fl (.wd 6 [⟨#[93]⟩])]
 |.selection=>.op 30 [.fl (.wd 6 [⟨#[46]⟩]),.fl (.nm)]
 |.args=>.op 31 [.fl (.wd 6 [⟨#[40]⟩]),.once (.ex .list),.fl (.wd 6 [⟨#[41]⟩])]
 |.list=>.ex [.fl (.mt .expr),.again (.row [.wd 6 [⟨#[44]⟩],.mt .expr])]
 |.procedure=>.op 5 [.fl (.wd 2 [⟨#[112,114,111,99]⟩]),.fl (.nm),.once (.fn .bracket),.once (.row [.wd 6 [⟨#[58]⟩],.mt .kind]),.fl (.wd 6 [⟨#[59]⟩]),.fl (.mt .block),.fl (.wd 6 [⟨#[59]⟩])]
 |.kind=>if t.k == 1 then .op 8 [.fl .nm] else if t.is [97,114,114,97,121] then .op 9 [.fl (.wd 2 [⟨#[97,114,114,97,121]⟩]),.fl (.wd 6 [⟨#[91]⟩]),.fl (.mt .expr),.fl (.wd 6 [⟨#[46,46]⟩]),.fl (.mt .expr),.fl (.wd 6 [⟨#[93]⟩]),.fl (.wd 2 [⟨#[111,102]⟩]),.fl (.mt .kind)] else if t.is [114,101,99,111,114,100] then .op 10 [.fl (.wd 2 [⟨#[114,101,99,111,114,100]⟩]),.fl (.mt .member),.again (.row [.wd 6 [⟨#[59]⟩],.mt .member]),.fl (.wd 2 [⟨#[101,110,100]⟩])] else .ref
 |.statement=>if t.k == 1 then .op 14 [.fl (.mt .object),.once (.row [.wd 6 [⟨#[58,61]⟩],.mt .expr])] else bA t.t
 |.factor=>if cQ t == 25 then .op 25 [.fl (.wd 6 [⟨#[45]⟩]),.fl (.mt .factor)] else if cQ t == 26 then .op 26 [.fl (.wd 2 [⟨#[110,111,116]⟩]),.fl (.mt .factor)] else if cQ t == 27 then .op 27 [.fl (.wd 6 [⟨#[40]⟩]),.fl (.mt .expr),.fl (.wd 6 [⟨#[41]⟩])] else if cQ t == 32 then .op 32 [.fl (.cs)] else if cQ t == 28 then .ex [.fl (.mt .object)] else .ref
def fe:List It:=[.fl (.wd 2 [⟨#[112,114,111,103,114,97,109]⟩]),.fl (.nm),.fl (.wd 6 [⟨#[59]⟩]),.fl (.mt .block),.fl (.wd 6 [⟨#[46]⟩])]
inductive Sr|tk|ref|go (d:Int) (o:List Ev) (r:List It)
def Gw.sr:Gw->Sr
 |.ref=>.ref
 |.ex r=>.go 0 [] r
 |.op nd r=>.go 1 [⟨1,nd,tv0⟩] (r++[.lv nd])
def Fl.step (t:Tv):Fl->Sr
 |.mt m=>(M.row t m).sr
 |x=>if x.takes t then .tk else .ref
def It.step (t:Tv):It->Sr
 |.fl x=>x.step t
 |.lv n=>.go (-1) [⟨3,n,tv0⟩] []
 |.once p=>.go 0 [] (Pk.pick t p).toList
 |.again p=>.go 0 [] (agR p (Pk.pick t p))
 |.all r=>.go 0 [] (r.map It.fl)
def rwf (r:List Fl):Prop:=(∃k ts rest,r=Fl.wd k ts :: rest)/\r.length<=8
def Pk.wf:Pk->Prop
 |.row r=>rwf r
 |_=>True
def It.wf:It->Prop
 |.once p=>p.wf
 |.again p=>p.wf
 |.all r=>rwf r
 |_=>True
def wfs (K:List It):Prop:=∀i∈K,i.wf
def lvs:List It->List Int
 |[]=>[]
 |.lv n :: K=>n :: lvs K
 |_ :: K=>lvs K
theorem bQ (a b:List It):lvs (a++b)=lvs a++lvs b:=by
 induction a with
 |nil=>rfl
 |cons i r ih=>cases i <;> simp [lvs,ih]
theorem sm (r:List Fl):lvs (r.map It.fl)=[]:=by
 induction r with
 |nil=>rfl
 |cons x r ih=>simp [lvs,ih]
theorem wZ (r:List Fl):wfs (r.map It.fl):=by
 intro i hi;obtain ⟨x,_,rfl⟩:=Cf.1 hi
 trivial
theorem gQ {a b:List It}(ha:wfs a) (hb:wfs b):wfs (a++b):=fun i hi=>(Ai.1 hi).elim (ha i) (hb i)
theorem dY:wfs []:=fun _ h=>by cases h
theorem eo {i:It}{K:List It}(hi:i.wf) (hK:wfs K):wfs (i :: K):=fun j hj=>(zK.1 hj).elim (fun e=>e ▸ hi) (hK j)
def Gw.ok:Gw->Prop
 |.ref=>True
 |.ex r=>wfs r/\r.length<=10/\lvs r=[]
 |.op nd r=>wfs r/\r.length<=10/\lvs r=[]/\2<=nd/\nd<=32
theorem mq (s:ByteArray):(bA s).ok:=by
 unfold bA
 repeat' split
 all_goals simp [Gw.ok,wfs,It.wf,Pk.wf,rwf,lvs]
theorem mF (t:Tv) (m:M):(M.row t m).ok:=by
 cases m <;> simp only [M.row]
 case statement=>
  split
  ·simp [Gw.ok,wfs,It.wf,Pk.wf,rwf,lvs]
  ·exact mq _
 all_goals (repeat' split)
 all_goals simp [Gw.ok,wfs,It.wf,Pk.wf,rwf,lvs]
theorem gU {p:Pk}(hp:p.wf) {i:It}(h:Pk.pick t p=some i):i.wf/\lvs [i]=[]:=by
 cases p with
 |fn d=>
  simp only [Pk.pick,BJ] at h;obtain ⟨m,_,rfl⟩:=h;exact ⟨trivial,rfl⟩
 |row r=>
  simp only [Pk.pick] at h
  split at h
  ·cases h;exact ⟨hp,rfl⟩
  ·cases h
 |ex m=>
  simp only [Pk.pick] at h
  split at h
  ·cases h
  ·cases h;exact ⟨trivial,rfl⟩
theorem jM {t:Tv}{i:It}{d:Int}{o:List Ev}{r K:List It}(h:It.step t i=.go d o r) (hi:i.wf) :
  wfs r/\r.length<=11/\o.length<=1/\((lvs (r++K)).length:Int)=(lvs (i :: K)).length+d:=by
 cases i with
 |fl x=>
  have hm:∃m,x=.mt m:=by
   cases x with
   |mt m=>exact ⟨m,rfl⟩
   |_=>simp only [It.step,Fl.step] at h;split at h <;> cases h
  obtain ⟨m,rfl⟩:=hm;have hr:=mF t m;simp only [It.step,Fl.step] at h;cases hrow:M.row t m with
  |ref=>rw [hrow] at h;cases h
  |ex r'=>
   rw [hrow] at h hr;cases h;refine ⟨hr.1,by have:=hr.2.1;omega,by simp,?_⟩;rw [bQ,hr.2.2];simp [lvs]
  |op nd r'=>
   rw [hrow] at h hr;cases h;refine ⟨gQ hr.1 (eo trivial dY),by have:=hr.2.1;simp;omega,by simp,?_⟩;rw [bQ,bQ,hr.2.2.1];simp [lvs]
 |lv n=>
  cases h;refine ⟨dY,by simp,by simp,?_⟩;simp [lvs];omega
 |once p=>
  simp only [It.step] at h;cases hp:Pk.pick t p with
  |none=>rw [hp] at h;cases h;exact ⟨dY,by simp,by simp,by simp [lvs]⟩
  |some j=>
   rw [hp] at h;cases h;have:=gU hi hp;refine ⟨eo this.1 dY,by simp,by simp,?_⟩;show ((lvs ([j]++K)).length:Int)=_;rw [bQ,this.2];simp [lvs]
 |again p=>
  simp only [It.step] at h;cases hp:Pk.pick t p with
  |none=>rw [hp] at h;cases h;exact ⟨dY,by simp [agR],by simp,by simp [lvs,agR]⟩
  |some j=>
   rw [hp] at h;cases h;have:=gU hi hp;refine ⟨eo this.1 (eo hi dY),by simp [agR],by simp,?_⟩;show ((lvs ([j]++([.again p]++K))).length:Int)=_;rw [bQ,this.2];simp [lvs]
 |all r'=>
  cases h;refine ⟨wZ r',by have:=hi.2;simp;omega,by simp,?_⟩;rw [bQ,sm];simp [lvs]
inductive Ro|no|yes (K:List It) (n:Int) (E:List Ev)
inductive Ru (t:Tv):Nat->List It->Int->List Ev->Ro->Prop
 |nil {n:Int} {E:List Ev}:Ru t 0 [] n E .no
 |ref {i:It} {K:List It} {n:Int} {E:List Ev}:It.step t i=.ref->Ru t 0 (i :: K) n E .no
 |tk {i:It} {K:List It} {n:Int} {E:List Ev}:It.step t i=.tk->Ru t 0 (i :: K) n E (.yes K n E)
 |go {k:Nat} {i:It} {K:List It} {n d:Int} {E o:List Ev} {r:List It} {R:Ro}:It.step t i=.go d o r->Ru t k (r++K) (n+d) (E++o) R->Ru t (k+1) (i :: K) n E R
theorem vZ {d:Dk}{m:M}(h:d.pick t=some m):m=.variables\/m=.constants\/m=.procedure\/m=.params\/m=.index\/m=.selection\/m=.args:=by
 cases d <;> simp only [Dk.pick] at h <;> repeat' (split at h)
 all_goals first|(cases h;done)|(cases h;simp)
inductive Pst|live (K:List It) (n:Int)|stuck (e n:Int)|shut
def beg (K:List It) (n:Int):List It:=if n == 0 then fe++.lv 1 :: K else K
def dq (n:Int):Int:=if n == 0 then 1 else n
def cX (n:Int):List Ev:=if n == 0 then [⟨1,1,tv0⟩] else []
inductive fv (t:Tv):Pst->List Ev->Int->Pst->Prop
 |shut:fv t .shut [] 4 .shut
 |stuck {e n:Int}:fv t (.stuck e n) [] e (.stuck e n)
 |note {K:List It} {n:Int}:(t.k == 7 || t.k == 8)=true->fv t (.live K n) (cX n++[⟨4,0,t⟩]) 0 (.live (beg K n) (dq n))
 |no {K:List It} {n:Int} {k:Nat}:(t.k == 7 || t.k == 8)=false->Ru t k (beg K n) (dq n) (cX n) .no->k<=(beg K n).length+20->fv t (.live K n) [] 120 (.stuck 120 n)
 |deep {K L:List It} {n m:Int} {E:List Ev} {k:Nat}:(t.k == 7 || t.k == 8)=false->Ru t k (beg K n) (dq n) (cX n) (.yes L m E)->k<=(beg K n).length+20->1000<m->fv t (.live K n) [] 122 (.stuck 122 n)
 |yes {K L:List It} {n m:Int} {E:List Ev} {k:Nat}:(t.k == 7 || t.k == 8)=false->Ru t k (beg K n) (dq n) (cX n) (.yes L m E)->k<=(beg K n).length+20->m<=1000->fv t (.live K n) (E++[⟨2,0,t⟩]) 0 (.live L m)
structure Lz (K:List It) (n:Int):Prop where
 wf:wfs K
 lv:((lvs K).length:Int)=n
 sn:(lvs K).length<=5000000
 sk:K.length<=500000
def Pst.ok:Pst->Prop
 |.live K n=>Lz K n
 |.stuck e n=>e≠0
 |.shut=>True
inductive ml:Pst->List Ev->Int->Prop
 |shut:ml .shut [] 4
 |stuck {e n:Int}:ml (.stuck e n) [] e
 |all {K:List It} {n:Int}:K.length=1->ml (.live K n) [⟨3,1,tv0⟩] 0
 |open {K:List It} {n:Int}:K.length≠1->ml (.live K n) [] 121
def Fl.ht:Fl->Nat
 |.mt .typed=>5
 |.mt .list=>3
 |_=>1
def rh:List Fl->Nat
 |[]=>0
 |x :: r=>max (x.ht+r.length) (rh r)
def Pk.ht:Pk->Nat
 |.row r=>rh r
 |.fn _=>1
 |.ex m=>(Fl.mt m).ht
def It.ht:It->Nat
 |.fl x=>x.ht
 |.lv _=>0
 |.once p=>max 1 p.ht
 |.again p=>1+max 1 p.ht
 |.all r=>max 1 (rh r)
def cnt:List It->Nat
 |[]=>0
 |.lv _ :: _=>0
 |_ :: K=>1+cnt K
def fb:List It->Prop
 |[]=>True
 |.lv _ :: K=>fb K
 |i :: K=>i.ht+cnt K<=15/\fb K
theorem Fl.ht_pos (x:Fl):1<=x.ht:=by
 cases x with
 |mt m=>cases m <;> decide
 |_=>exact eq _
theorem It.ht_pos (i:It) (h:∀n,i≠.lv n):1<=i.ht:=by
 cases i with
 |fl x=>exact x.ht_pos
 |lv n=>exact absurd rfl (h n)
 |once p=>simp only [It.ht];omega
 |again p=>simp only [It.ht];omega
 |all r=>simp only [It.ht];omega
theorem fM {i:It}(h:∀n,i≠.lv n) (K:List It):cnt (i :: K)=1+cnt K:=by
 cases i with
 |lv n=>exact absurd rfl (h n)
 |_=>rfl
theorem cL {i:It}(h:∀n,i≠.lv n) (K:List It):fb (i :: K)↔i.ht+cnt K<=15/\fb K:=by
 cases i with
 |lv n=>exact absurd rfl (h n)
 |_=>exact Iff.rfl
theorem ng:∀{K:List It},fb K->cnt K<=15
 |[],_=>zx _
 |i :: K,h=>by
  by_cases hl:∃n,i=.lv n
  ·obtain ⟨n,rfl⟩:=hl;exact zx _
  ·have hn:∀n,i≠.lv n:=fun n e=>hl ⟨n,e⟩
   have h1:=((cL hn K).1 h).1;have:=i.ht_pos hn;rw [fM hn];omega
theorem kj:∀{K:List It},fb K->K.length<=16*(lvs K).length+cnt K
 |[],_=>zx _
 |i :: K,h=>by
  by_cases hl:∃n,i=.lv n
  ·obtain ⟨n,rfl⟩:=hl;have h':fb K:=h;have:=kj h';have:=ng h';simp [lvs,cnt];omega
  ·have hn:∀n,i≠.lv n:=fun n e=>hl ⟨n,e⟩
   have:=kj ((cL hn K).1 h).2
   have e:lvs (i :: K)=lvs K:=by
    cases i with
    |lv n=>exact absurd rfl (hn n)
    |_=>rfl
   rw [fM hn,e];simp;omega
theorem xT (r:List Fl) (K:List It) (h:rh r+cnt K<=15) (hK:fb K):fb (r.map It.fl++K)/\cnt (r.map It.fl++K)=r.length+cnt K:=by
 induction r with
 |nil=>exact ⟨hK,by simp⟩
 |cons x r ih=>
  simp only [rh] at h;obtain ⟨h1,h2⟩:=ih (by omega);refine ⟨(cL (fun n e=>by cases e) _).2 ⟨?_,h1⟩,?_⟩
  ·show x.ht+cnt (r.map It.fl++K)<=15
   rw [h2];omega
  ·show cnt (.fl x :: (r.map It.fl++K))=_
   rw [fM (fun n e=>by cases e),h2,List.length_cons];omega
theorem oc {p:Pk}{i:It}(h:Pk.pick t p=some i):i.ht<=max 1 p.ht/\∀n,i≠.lv n:=by
 cases p with
 |fn d=>
  simp only [Pk.pick,BJ] at h;obtain ⟨m,hm,rfl⟩:=h;have:=vZ hm;refine ⟨?_,fun n e=>by cases e⟩
  rcases this with rfl|rfl|rfl|rfl|rfl|rfl|rfl <;> exact eq 1
 |row r=>
  simp only [Pk.pick] at h
  split at h
  ·cases h;exact ⟨eq _,fun n e=>by cases e⟩
  ·cases h
 |ex m=>
  simp only [Pk.pick] at h
  split at h
  ·cases h
  ·cases h;exact ⟨by show (Fl.mt m).ht<=max 1 (Fl.mt m).ht;omega,fun n e=>by cases e⟩
def Gw.fb (m:M):Gw->Prop
 |.ref=>True
 |.ex r=>∀K,(Fl.mt m).ht+cnt K<=15->Go.Proofs.YtpdlohfdjiaegaaGreatDoor.fb K->Go.Proofs.YtpdlohfdjiaegaaGreatDoor.fb (r++K)
 |.op nd r=>∀K,Go.Proofs.YtpdlohfdjiaegaaGreatDoor.fb K->Go.Proofs.YtpdlohfdjiaegaaGreatDoor.fb (r++.lv nd :: K)
theorem xo (t:Tv) (m:M):(M.row t m).fb m:=by
 cases m <;> simp only [M.row,bA] <;> (repeat' split) <;> simp [Gw.fb,fb,cnt,It.ht,Fl.ht,Pk.ht,rh]
 all_goals (intro K h1 h2;simp only [h2,and_true];omega)
theorem uC {i:It}{r K:List It}(h:It.step t i=.go d o r) (hf:fb (i :: K)):fb (r++K):=by
 cases i with
 |fl x=>
  obtain ⟨h1,h2⟩:=(cL (fun n e=>by cases e) K).1 hf
  have hm:∃m,x=.mt m:=by
   cases x with
   |mt m=>exact ⟨m,rfl⟩
   |_=>simp only [It.step,Fl.step] at h;split at h <;> cases h
  obtain ⟨m,rfl⟩:=hm;have hr:=xo t m;simp only [It.step,Fl.step] at h;cases hrow:M.row t m with
  |ref=>rw [hrow] at h;cases h
  |ex r'=>rw [hrow] at h hr;cases h;exact hr K h1 h2
  |op nd r'=>rw [hrow] at h hr;cases h;rw [zJ];exact hr K h2
 |lv n=>cases h;exact hf
 |once p=>
  obtain ⟨h1,h2⟩:=(cL (fun n e=>by cases e) K).1 hf;simp only [It.step] at h;cases hp:Pk.pick t p with
  |none=>rw [hp] at h;cases h;exact h2
  |some j=>
   rw [hp] at h;cases h;obtain ⟨a,b⟩:=oc hp;exact (cL b K).2 ⟨by simp only [It.ht] at h1;omega,h2⟩
 |again p=>
  have hn:∀n,It.again p≠.lv n:=fun n e=>by cases e
  obtain ⟨h1,h2⟩:=(cL hn K).1 hf;simp only [It.step] at h;cases hp:Pk.pick t p with
  |none=>rw [hp] at h;cases h;exact h2
  |some j=>
   rw [hp] at h;cases h;obtain ⟨a,b⟩:=oc hp;refine (cL b _).2 ⟨?_,hf⟩;show j.ht+cnt (.again p :: K)<=15;rw [fM hn];simp only [It.ht] at h1;omega
 |all r'=>
  obtain ⟨h1,h2⟩:=(cL (fun n e=>by cases e) K).1 hf;cases h;exact (xT r' K (by simp only [It.ht] at h1;omega) h2).1
def play:List Int->List Ev->Option (List Int)
 |s,[]=>some s
 |s,e :: r=>if e.k=1 then play (e.n :: s) r else if e.k=3 then (match s with|n :: s'=>if n=e.n then play s' r else none|[]=>none) else play s r
theorem dh:∀(a b:List Ev) (s s':List Int),play s a=some s'->play s (a++b)=play s' b
 |[],b,s,s',h=>by cases h;rfl
 |e :: r,b,s,s',h=>by
  simp only [play,AI] at h ⊢
  split
  ·rename_i h1;rw [zw h1] at h;exact dh r b _ _ h
  ·rename_i h1
   rw [zu h1] at h
   split
   ·rename_i h2
    rw [zw h2] at h;cases s with
    |nil=>cases h
    |cons n s=>
     simp only at h ⊢
     split
     ·rename_i h3;rw [zw h3] at h;exact dh r b _ _ h
     ·rename_i h3;rw [zu h3] at h;cases h
   ·rename_i h2;rw [zu h2] at h;exact dh r b _ _ h
theorem o8 {i:It}{r K:List It}(h:It.step t i=.go d o r) (hi:i.wf):play (lvs (i :: K)) o=some (lvs (r++K)):=by
 have hk:=jM (K:=K) h hi;cases i with
 |fl x=>
  have hm:∃m,x=.mt m:=by
   cases x with
   |mt m=>exact ⟨m,rfl⟩
   |_=>simp only [It.step,Fl.step] at h;split at h <;> cases h
  obtain ⟨m,rfl⟩:=hm;have hr:=mF t m;simp only [It.step,Fl.step] at h;cases hrow:M.row t m with
  |ref=>rw [hrow] at h;cases h
  |ex r'=>rw [hrow] at h hr;cases h;rw [bQ,hr.2.2];rfl
  |op nd r'=>rw [hrow] at h hr;cases h;rw [bQ,bQ,hr.2.2.1];rfl
 |lv n=>cases h;simp [play,lvs]
 |once p=>
  simp only [It.step] at h;cases hp:Pk.pick t p with
  |none=>rw [hp] at h;cases h;rfl
  |some j=>rw [hp] at h;cases h;show some (lvs K)=some (lvs ([j]++K));rw [bQ,(gU hi hp).2];rfl
 |again p=>
  simp only [It.step] at h;cases hp:Pk.pick t p with
  |none=>rw [hp] at h;cases h;rfl
  |some j=>rw [hp] at h;cases h;show some (lvs K)=some (lvs ([j]++([.again p]++K)));rw [bQ,(gU hi hp).2];rfl
 |all r'=>cases h;rw [bQ,sm];rfl
structure Ok (K:List It) (n:Int):Prop where
 wf:wfs K
 fb:fb K
 lv:((lvs K).length:Int)=n
 le:n<=1000
theorem Ok.lz {K:List It}(h:Ok K n):Lz K n:=by
 have h1:=h.lv;have h2:=h.le;have h3:=kj h.fb;have h4:=ng h.fb;exact ⟨h.wf,h.lv,by omega,by omega⟩
theorem uK {K:List It}{R:Ro}(h:Ru t k K n E R):∀{L:List It}{m:Int}{F:List Ev},R=.yes L m F->wfs K->fb K->((lvs K).length:Int)=n ->
  wfs L/\fb L/\((lvs L).length:Int)=m/\∃o,F=E++o/\play (lvs K) o=some (lvs L)/\(∀e∈o,e.d=tv0/\(e.k=1\/e.k=3)/\(e.k=1->e.n≠1))/\o.length<=k:=by
 induction h with
 |nil=>intro L m F h;cases h
 |ref _=>intro L m F h;cases h
 |tk hs=>
  rename_i i K n E
  intro L m F h hw hf hn;cases h;have hl:∀a,i≠.lv a:=fun a e=>by subst e;cases hs
  have e:lvs (i :: K)=lvs K:=by
   cases i with
   |lv a=>exact absurd rfl (hl a)
   |_=>rfl
  rw [e] at hn;exact ⟨fun j hj=>hw j (zX _ hj),((cL hl K).1 hf).2,hn,[],by simp,by rw [e];rfl,fun x hx=>by simp at hx,zx _⟩
 |go hs _ ih=>
  rename_i k i K n d E o r R _
  intro L m F h hw hf hn;have hi:=hw i (zV ..);obtain ⟨a1,a2,a3,a4⟩:=jM (K:=K) hs hi;obtain ⟨b1,b2,b3,o2,b4,b5,b6,b7⟩:=ih h (gQ a1 (fun j hj=>hw j (zX _ hj))) (uC hs hf) (by omega);refine ⟨b1,b2,b3,o++o2,by rw [b4,zJ],(dh o o2 _ _ (o8 hs hi)).trans b5,?_,by simp;omega⟩;intro x hx
  rcases Ai.1 hx with hx|hx
  ·cases i with
   |fl y=>
    have hm:∃m,y=.mt m:=by
     cases y with
     |mt m=>exact ⟨m,rfl⟩
     |_=>simp only [It.step,Fl.step] at hs;split at hs <;> cases hs
    obtain ⟨mm,rfl⟩:=hm;have hr:=mF t mm;simp only [It.step,Fl.step] at hs;cases hrow:M.row t mm with
    |ref=>rw [hrow] at hs;cases hs
    |ex r'=>rw [hrow] at hs;cases hs;simp at hx
    |op nd r'=>rw [hrow] at hs hr;cases hs;simp at hx;subst hx;exact ⟨rfl,.inl rfl,fun _=>by have:=hr.2.2.2.1;show nd≠1;omega⟩
   |lv a=>cases hs;simp at hx;subst hx;exact ⟨rfl,.inr rfl,fun e=>by cases e⟩
   |once p=>cases hs;simp at hx
   |again p=>cases hs;simp at hx
   |all r'=>cases hs;simp at hx
  ·exact b6 x hx
theorem xD {K:List It}(h:Ok K n) (h0:n=0->K=[]):wfs (beg K n)/\fb (beg K n)/\((lvs (beg K n)).length:Int)=dq n/\play (lvs K) (cX n)=some (lvs (beg K n))/\(beg K n).length<=20000:=by
 have hz:=h.lz;have h3:=kj h.fb;have h4:=ng h.fb;have h1:=h.lv;have h2:=h.le
 by_cases hn:n=0
 ·obtain rfl:=h0 hn;subst hn;refine ⟨?_,?_,rfl,rfl,by simp [beg,fe]⟩
  ·intro i hi;simp [beg,fe] at hi
   rcases hi with rfl|rfl|rfl|rfl|rfl|rfl <;> trivial
  ·simp [beg,fe,fb,It.ht,Fl.ht,cnt]
 ·have hb:(n == 0)=false:=by simpa using hn
  simp only [beg,dq,cX,hb,Dl,if_false];exact ⟨h.wf,h.fb,h.lv,rfl,by omega⟩
def Bot (K:List It):Prop:=∃X,K=X++[.lv 1]
theorem xi {K:List It}{R:Ro}(h:Ru t k K n E R):∀{L:List It}{m:Int}{F:List Ev},R=.yes L m F->Bot K->Bot L:=by
 induction h with
 |nil=>intro L m F h;cases h
 |ref _=>intro L m F h;cases h
 |tk hs=>
  rename_i i K n E
  intro L m F h hb;cases h;obtain ⟨X,hX⟩:=hb;cases X with
  |nil=>simp at hX;obtain ⟨rfl,rfl⟩:=hX;cases hs
  |cons j X=>simp at hX;exact ⟨X,hX.2⟩
 |go hs hr ih=>
  rename_i k i K n d E o r R
  intro L m F h hb;obtain ⟨X,hX⟩:=hb;cases X with
  |nil=>
   simp at hX;obtain ⟨rfl,rfl⟩:=hX;cases hs;cases hr;cases h
  |cons j X=>
   simp at hX;obtain ⟨rfl,rfl⟩:=hX;exact ih h ⟨r++X,by simp⟩
theorem yh {K:List It}(h:Bot K):1<=(lvs K).length:=by
 obtain ⟨X,rfl⟩:=h;rw [bQ];simp [lvs]
def mj:Pst->Prop
 |.live K n=>Ok K n/\((n=0/\K=[])\/Bot K)
 |.stuck e n=>e=120\/e=122
 |.shut=>True
theorem mj.ok {st:Pst}(h:mj st):st.ok:=by
 cases st with
 |live K n=>exact h.1.lz
 |stuck e n=>
  show e≠0
  rcases h with rfl|rfl <;> decide
 |shut=>trivial
theorem sQ:mj (.live [] 0):=⟨⟨dY,trivial,rfl,by decide⟩,.inl ⟨rfl,rfl⟩⟩
def Pst.path:Pst->List Int
 |.live K _=>lvs K
 |_=>[]
theorem lJ {K:List It}(h:mj (.live K n)):wfs (beg K n)/\fb (beg K n)/\((lvs (beg K n)).length:Int)=dq n/\play (lvs K) (cX n)=some (lvs (beg K n))/\(beg K n).length<=20000/\Bot (beg K n)/\dq n<=1000/\(cX n).length<=1:=by
 have hn0:n=0->K=[]:=by
  intro e
  rcases h.2 with h2|h2
  ·exact h2.2
  ·have:=yh h2;have:=h.1.lv;omega
 obtain ⟨b1,b2,b3,b4,b5⟩:=xD h.1 hn0;have hle:=h.1.le;refine ⟨b1,b2,b3,b4,b5,?_,by unfold dq;split <;> omega,by unfold cX;split <;> simp⟩
 by_cases e:n=0
 ·obtain rfl:=hn0 e;subst e;exact ⟨fe,by simp [beg]⟩
 ·rcases h.2 with h2|h2
  ·exact absurd h2.1 e
  ·have hb:(n == 0)=false:=by simpa using e
   simp only [beg,hb,Dl,if_false];exact h2
theorem iG {st st':Pst}{ev:List Ev}(h:mj st) (hp:fv t st ev code st'):mj st'/\ev.length<=30000/\(code=0->∃K n,st'=.live K n/\Bot K)/\(code=0->play st.path ev=some st'.path):=by
 cases hp with
 |shut=>exact ⟨trivial,by simp,fun h=>(by cases h),fun h=>(by cases h)⟩
 |stuck=>exact ⟨h,by simp,fun h0=>(by subst h0;rcases h with h|h <;> cases h),fun h0=>(by subst h0;rcases h with h|h <;> cases h)⟩
 |note hc=>
  obtain ⟨b1,b2,b3,b4,b5,hbot,hbn,hbe⟩:=lJ h;refine ⟨⟨⟨b1,b2,b3,hbn⟩,.inr hbot⟩,by simp;omega,fun _=>⟨_,_,rfl,hbot⟩,fun _=>?_⟩;refine (dh _ _ _ _ b4).trans ?_;simp [play];rfl
 |no hc hR hk=>exact ⟨.inl rfl,by simp,fun h=>(by cases h),fun h=>(by cases h)⟩
 |deep hc hR hk hm=>exact ⟨.inr rfl,by simp,fun h=>(by cases h),fun h=>(by cases h)⟩
 |yes hc hR hk hm=>
  obtain ⟨b1,b2,b3,b4,b5,hbot,hbn,hbe⟩:=lJ h;obtain ⟨c1,c2,c3,o,c4,c5,c6,c7⟩:=uK hR rfl b1 b2 b3;have hL:=xi hR rfl hbot;refine ⟨⟨⟨c1,c2,c3,by omega⟩,.inr hL⟩,by rw [c4];simp;omega,fun _=>⟨_,_,rfl,hL⟩,fun _=>?_⟩;rw [c4,zJ];refine (dh _ _ _ _ b4).trans ((dh _ _ _ _ c5).trans ?_);simp [play];rfl
inductive Alr:Pst->List Tv->List Ev->Int->Nat->Prop
 |nil {st:Pst} {ev:List Ev} {code:Int}:ml st ev code->Alr st [] ev code 0
 |err {st st':Pst} {t:Tv} {l:List Tv} {ev:List Ev} {code:Int}:fv t st ev code st'->code≠0->Alr st (t :: l) [] code 0
 |on {st st':Pst} {t:Tv} {l:List Tv} {ev E:List Ev} {code:Int} {k:Nat}:fv t st ev 0 st'->Alr st' l E code k->Alr st (t :: l) (ev++E) code (k+1)
theorem Alr.inv {st:Pst}{l:List Tv}(h:Alr st (t :: l) E code k):(∃ev st',fv t st ev code st'/\code≠0/\E=[]/\k=0)\/(∃ev st' E2 k2,fv t st ev 0 st'/\Alr st' l E2 code k2/\E=ev++E2/\k=k2+1):=by
 cases h with
 |err h1 h2=>exact .inl ⟨_,_,h1,h2,rfl,rfl⟩
 |on h1 h2=>exact .inr ⟨_,_,_,_,h1,h2,rfl,rfl⟩
theorem Alr.end {st:Pst}(h:Alr st [] E code k):ml st E code/\k=0:=by
 cases h with
 |nil h1=>exact ⟨h1,rfl⟩
def PB (W:World) (g:Nat) (c:Bool) (e n:Int) (vs vt:Value):Prop:=W.heap[g]?=some (.cells #[.bool c,.int .i64 e,.int .i64 n,vs,vt] 104 (0,0))
theorem PB.cells {W:World}{g:Nat}{c:Bool}{e n:Int}{vs vt:Value}(h:PB W g c e n vs vt) :
  W.cell? ⟨g,0,none⟩=some (.bool c)/\W.cell? ⟨g,1,none⟩=some (.int .i64 e)/\W.cell? ⟨g,2,none⟩=some (.int .i64 n)/\W.cell? ⟨g,3,none⟩=some vs/\W.cell? ⟨g,4,none⟩=some vt:=
 ⟨aa h rfl,aa h rfl,aa h rfl,aa h rfl,aa h rfl⟩
theorem PB.frozen (h:PB W g c e n vs vt) (j:Nat):W.frozen? ⟨g,j,none⟩=false:=aj h
theorem PB.kp {S:Nat->Prop}{W W':World}{g:Nat}{c:Bool}{e n:Int}{vs vt:Value}(h:PB W g c e n vs vt) (hk:Kp S W W') (hS:¬S g):PB W' g c e n vs vt:=hk.blk h hS
theorem PB.below {W':World}(h:PB W g c e n vs vt) (hb:Below W.heap.size W W'):PB W' g c e n vs vt:=ab h hb
theorem PB.lt (h:PB W g c e n vs vt):g<W.heap.size:=ah h
theorem rR {ops:Array Oper}{o:Oper}{a:Act}{K:Act->World->Prop}{Q:Exit->Act->World->Prop}{E:Prop}(hgd:o.guard=none) (s x:Operand)
  (ho:o.op=.call { callee:=.builtin .append,args:=#[s,x],argTypes:=#[44,44] }) (v:Value) (l:List Ev) (d:Ev) (hs:a.eval s=v) (hr:Re W v l)
  (g c:Nat) (hx:a.eval x=.slice (some ⟨g,0,none⟩) 1 c) (hg:W.heap[g]?=some (.cells #[.int .u8 d.k,.int .u8 d.n,.int .u8 d.d.k,.string d.d.t,.int .i64 d.d.a,.int .i64 d.d.l,.int .i64 d.d.c,.int .i64 d.d.f] 39 (0,0))) (hl:l.length<=1000000000)
  (h:∀q cap w',Re w' (.slice (some ⟨q,0,none⟩) (l.length+1) cap) (l++[d])->W.grownBy w' v.ownBlock->(v.ownBlock=some q\/q=W.heap.size)->K (a.put o.dst (.slice (some ⟨q,0,none⟩) (l.length+1) cap)) w') :
  if Region.wanted o (yielded ops a.tmps)=true then Oper.wp Tryz.prog o a W K Q else E:=by
 obtain ⟨i0,hi,hz0,hz1,hz2⟩:=Az Tryz.info39;refine CQ W hgd s x 44 ho 0 39 i0 _ 8 64 Dz hi hz0 hz1 hz2 rfl (by decide) v _ _ hs hr ⟨g,0,none⟩ 1 c (ecs [d]) hx (by rw [oI];rfl) ?_ (oH [d]) (by omega) (by unfold maxLen;omega) (by omega) (zx _) _ rfl ?_
 ·intro j u hu;refine As hg j u ?_;have e:ecs [d]=[.int .u8 d.k,.int .u8 d.n,.int .u8 d.d.k,.string d.d.t,.int .i64 d.d.a,.int .i64 d.d.l,.int .i64 d.d.c,.int .i64 d.d.f]:=by simp [ecs,aN,Ev.cs]
  rw [e] at hu
  simpa using hu
 ·intro q cap w' a1 a2 a3 _;refine h q cap w' ?_ a2 a3;unfold Re;rw [zq,oJ];exact a1
structure yu (W W':World) (g:Nat) (c:Bool) (e n:Int) (vs vt:Value) (E:List Ev):Prop where
 ex:∃vt',PB W' g c e n vs vt'/\Re W' vt' E/\Nb W vt vt'
 kp:Kp (fun k=>k=g\/vt.ownBlock=some k) W W'
theorem uo {W1 w3:World}{E':List Ev}(h:PB W g c e n vs vt) (hE:Re W vt E) (hb:Below W.heap.size W W1) {q cap n':Nat}(hr:Re w3 (.slice (some ⟨q,0,none⟩) n' cap) E') (hg:W1.grownBy w3 vt.ownBlock) (hq:vt.ownBlock=some q\/q=W1.heap.size) :
  (w3.cell? ⟨g,4,none⟩=some vt/\w3.frozen? ⟨g,4,none⟩=false)/\yu W (w3.setCell ⟨g,4,none⟩ (.slice (some ⟨q,0,none⟩) n' cap)) g c e n vs vt E':=by
 have h1:=h.below hb;have hne:¬some g=vt.ownBlock:=fun e=>(hE.below hb).ne h1 (by decide) g e.symm rfl
 have h3:PB w3 g c e n vs vt:=h1.kp (Kp.of_grown hg) hne;refine ⟨⟨aa h3 rfl,h3.frozen 4⟩,⟨⟨.slice (some ⟨q,0,none⟩) n' cap,af h3 4 _,hr.kp (Kp.set _ _ _ _) (hr.ne h3 (by decide)),?_⟩,?_⟩⟩
 ·rcases hq with hq|hq
  ·exact .inl hq.symm
  ·exact .inr ⟨q,rfl,by rw [hq];exact hb.size⟩
 ·exact ((Kp.of_below hb).step (Kp.of_grown hg) (fun k _ e=>.inr e.symm)).step (Kp.set _ _ _ _) (fun k _ e=>.inl e)
set_option maxHeartbeats 1000000 in
theorem pF (h:PB W g c e n vs vt) (hE:Re W vt E) (d:Ev) (hl:E.length<=1000000000) :
  Aa 99 #[.pointer (some ⟨g,0,none⟩),d.v] W fun r w'=>r=.returned (.tuple #[])/\yu W w' g c e n vs vt (E++[d]):=by
 obtain ⟨p,cap,rfl,_⟩:=hE.shape;have HW:Hid (∀V,Below W.heap.size W V->Re V (.slice p E.length cap) E):=fun V hb=>hE.below hb
 have HT:Hid (∀W1 w3 q cp,Below W.heap.size W W1->Re w3 (.slice (some ⟨q,0,none⟩) (E.length+1) cp) (E++[d])->W1.grownBy w3 (Value.slice p E.length cap).ownBlock->((Value.slice p E.length cap).ownBlock=some q\/q=W1.heap.size)->(w3.cell? ⟨g,4,none⟩=some (.slice p E.length cap)/\w3.frozen? ⟨g,4,none⟩=false)/\yu W (w3.setCell ⟨g,4,none⟩ (.slice (some ⟨q,0,none⟩) (E.length+1) cp)) g c e n vs (.slice p E.length cap) (E++[d])):=
  fun W1 w3 q cp hb h1 h2 h3=>uo h hE hb h1 h2 h3
 obtain ⟨c0,c1,c2,c3,c4⟩:=h.cells;have hf:=h.frozen 4;have hg:=h.lt;clear h hE
 dsimp only [Ev.v]
 obtain ⟨⟨k0,n0,⟨k1,t,a,l,cc,f⟩⟩,hd⟩:∃x,d=x:=⟨_,rfl⟩;subst hd
 go_enter Tryz.func99,Tryz.ntmps99
 go_wp2_with fail
 obtain ⟨W1,e1⟩:∃W1,W.alloc (.cells #[.int .u8 k0,.int .u8 n0,.int .u8 k1,.string t,.int .i64 a,.int .i64 l,.int .i64 cc,.int .i64 f] 39)=W1:=⟨_,rfl⟩;have hb:Below W.heap.size W W1:=by rw [<-e1];exact (gt _ _).alloc (eq _) _
 have hn:W1.heap[W.heap.size]?=some (.cells #[.int .u8 k0,.int .u8 n0,.int .u8 k1,.string t,.int .i64 a,.int .i64 l,.int .i64 cc,.int .i64 f] 39):=by rw [<-e1];exact ag _ _
 rw [e1];clear e1;have m0:W1.cell? ⟨W.heap.size,0,none⟩=_:=aa hn rfl;have m1:W1.cell? ⟨W.heap.size,1,none⟩=_:=aa hn rfl;have m2:W1.cell? ⟨W.heap.size,2,none⟩=_:=aa hn rfl;have m3:W1.cell? ⟨W.heap.size,3,none⟩=_:=aa hn rfl;have m4:W1.cell? ⟨W.heap.size,4,none⟩=_:=aa hn rfl;have m5:W1.cell? ⟨W.heap.size,5,none⟩=_:=aa hn rfl;have m6:W1.cell? ⟨W.heap.size,6,none⟩=_:=aa hn rfl;have m7:W1.cell? ⟨W.heap.size,7,none⟩=_:=aa hn rfl;have d4:W1.cell? ⟨g,4,none⟩=some (.slice p E.length cap):=(hb.cell hg).trans c4;have HB:Hid (∀o,Below W.heap.size W (W1.drew.alloc o)):=fun o=>(hb.drew).alloc hb.size _
 have hg1:g<W1.heap.size:=zz hg hb.size;clear hb hn c0 c1 c2 c3 c4 hf hg
 go_region_law (refine rR (by rfl) _ _ (by rfl) (.slice p E.length cap) E ⟨k0,n0,⟨k1,t,a,l,cc,f⟩⟩ (by rfl) (HW.out _ (HB.out _)) W1.heap.size 1 (by rfl) (ag W1.drew _) hl ?_;intro q cp w3 hr3 hg3 hq3;obtain ⟨⟨x1,x2⟩,x3⟩:=HT.out _ w3 q cp (HB.out _) hr3 hg3 hq3;have HX:=hid x3;clear x3 hr3 hg3 hq3)
 all_goals (
  go_wp2_with fail
  go_end0
  exact ⟨rfl,HX.out⟩)
end Go.Proofs.YtpdlohfdjiaegaaGreatDoor
