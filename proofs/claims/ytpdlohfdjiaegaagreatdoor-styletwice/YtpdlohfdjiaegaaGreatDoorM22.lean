import Derived.Test.YtpdlohfdjiaegaaGreatDoorM01
set_option linter.unusedVariables false
set_option linter.unusedSimpArgs false
namespace Go.Proofs.YtpdlohfdjiaegaaGreatDoor
open Go.RowKit
variable {t:Tv}{n code:Int}{k:Nat}{E:List Ev}
inductive M|block|variables|constants|procedure|params|param|typed|kind|member|body|statement|expr|rel|sum|term|factor|object|index|selection|args|list
deriving DecidableEq
inductive Dk|declaration|bracket|detail
deriving DecidableEq
inductive Fl|wd (k:Int) (ts:List ByteArray)|nm|cs|mt (m:M)
inductive Pk|fn (d:Dk)|row (r:List Fl)|ex (m:M)
inductive It|fl (x:Fl)|lv (n:Int)|once (p:Pk)|again (p:Pk)|all (r:List Fl)
theorem rq {a b:ByteArray}(h:a.toList=b.toList):a=b:=by
 rw [ByteArray.toList_eq,ByteArray.toList_eq] at h;have:=Array.toList_inj.1 h;cases a;cases b;simp_all
theorem Br (a b:ByteArray):(a.toList == b.toList)=decide (a=b):=by
 by_cases e:a=b
 ·subst e;simp
 ·have:¬a.toList=b.toList:=fun h=>e (rq h)
  simp [e,this]
def has (l:List ByteArray) (s:ByteArray):Bool:=l.any (fun x=>decide (s=x))
def Tv.is (t:Tv) (l:List UInt8):Bool:=t.t.toList == l
def Fl.takes (t:Tv):Fl->Bool
 |.wd k ts=>t.k == k && has ts t.t
 |.nm=>t.k == 1
 |.cs=>t.k == 3 || t.k == 4 || t.k == 5
 |.mt _=>false
def cP (t:Tv):Int:=
 if t.k == 6 && t.is [45] then 25 else if t.k == 2 && t.is [110,111,116] then 26 else if t.k == 6 && t.is [40] then 27
 else if t.k == 3 || t.k == 4 || t.k == 5 then 32 else if t.k == 1 then 28 else 0
def Dk.pick (t:Tv):Dk->Option M
 |.declaration=>if t.is [118,97,114] then some .variables else if t.is [99,111,110,115,116] then some .constants else if t.is [112,114,111,99] then some .procedure else none
 |.bracket=>if t.is [40] then some .params else none
 |.detail=>if t.is [91] then some .index else if t.is [46] then some .selection else if t.is [40] then some .args else none
def Pk.pick (t:Tv):Pk->Option It
 |.fn d=>(d.pick t).map (fun m=>.fl (.mt m))
 |.row r=>if (r.head?.elim false (fun x=>x.takes t)) then some (.all r) else none
 |.ex m=>if cP t == 0 then none else some (.fl (.mt m))
def agR (p:Pk):Option It->List It
 |none=>[]
 |some i=>[i,.again p]
inductive Gw|ref|ex (r:List It)|op (n:Int) (r:List It)
def aZ (s:ByteArray):Gw:=
 if s.toList == [115,107,105,112] then .op 13 [.fl (.wd 2 [s])]
 else if s.toList == [105,102] then .op 15 [.fl (.wd 2 [s]),.fl (.mt .expr),.fl (.wd 2 [⟨#[116,104,101,110]⟩]),.fl (.mt .body),.again (.row [.wd 2 [⟨#[101,108,105,102]⟩],.mt .expr,.wd 2 [⟨#[116,104,101,110]⟩],.mt .body]),.once (.row [.wd 2 [⟨#[101,108,115,101]⟩],.mt .body]),.fl (.wd 2 [⟨#[101,110,100]⟩])]
 else if s.toList == [119,104,105,108,101] then .op 16 [.fl (.wd 2 [s]),.fl (.mt .expr),.fl (.wd 2 [⟨#[100,111]⟩]),.fl (.mt .body),.fl (.wd 2 [⟨#[101,110,100]⟩])]
 else if s.toList == [102,111,114] then .op 17 [.fl (.wd 2 [s]),.fl (.nm),.fl (.wd 6 [⟨#[58,61]⟩]),.fl (.mt .expr),.fl (.wd 2 [⟨#[116,111]⟩]),.fl (.mt .expr),.fl (.wd 2 [⟨#[100,111]⟩]),.fl (.mt .body),.fl (.wd 2 [⟨#[101,110,100]⟩])]
 else if s.toList == [114,101,112,101,97,116] then .op 18 [.fl (.wd 2 [s]),.fl (.mt .body),.fl (.wd 2 [⟨#[117,110,116,105,108]⟩]),.fl (.mt .expr)]
 else if s.toList == [114,101,116,117,114,110] then .op 19 [.fl (.wd 2 [s]),.once (.ex .expr)]
 else if s.toList == [98,101,103,105,110] then .op 20 [.fl (.wd 2 [s]),.fl (.mt .body),.fl (.wd 2 [⟨#[101,110,100]⟩])]
 else .ref
def M.row (t:Tv):M->Gw
 |.block=>.op 2 [.again (.fn .declaration),.fl (.wd 2 [⟨#[98,101,103,105,110]⟩]),.fl (.mt .body),.fl (.wd 2 [⟨#[101,110,100]⟩])]
 |.variables=>.op 3 [.fl (.wd 2 [⟨#[118,97,114]⟩]),.fl (.mt .typed),.fl (.wd 6 [⟨#[59]⟩])]
 |.constants=>.op 4 [.fl (.wd 2 [⟨#[99,111,110,115,116]⟩]),.fl (.nm),.fl (.wd 6 [⟨#[61]⟩]),.fl (.mt .expr),.fl (.wd 6 [⟨#[59]⟩])]
 |.params=>.op 6 [.fl (.wd 6 [⟨#[40]⟩]),.fl (.mt .param),.again (.row [.wd 6 [⟨#[59]⟩],.mt .param]),.fl (.wd 6 [⟨#[41]⟩])]
 |.param=>.op 7 [.fl (.mt .typed)]
 |.typed=>.ex [.fl (.nm),.again (.row [.wd 6 [⟨#[44]⟩],.nm]),.fl (.wd 6 [⟨#[58]⟩]),.fl (.mt .kind)]
 |.member=>.op 11 [.fl (.mt .typed)]
 |.body=>.op 12 [.fl (.mt .statement),.again (.row [.wd 6 [⟨#[59]⟩],.mt .statement])]
 |.expr=>.op 21 [.fl (.mt .rel),.again (.row [.wd 2 [⟨#[97,110,100]⟩,⟨#[111,114]⟩],.mt .rel])]
 |.rel=>.op 22 [.fl (.mt .sum),.once (.row [.wd 6 [⟨#[61]⟩,⟨#[35]⟩,⟨#[60]⟩,⟨#[60,61]⟩,⟨#[62]⟩,⟨#[62,61]⟩],.mt .sum])]
 |.sum=>.op 23 [.fl (.mt .term),.again (.row [.wd 6 [⟨#[43]⟩,⟨#[45]⟩],.mt .term])]
 |.term=>.op 24 [.fl (.mt .factor),.again (.row [.wd 6 [⟨#[42]⟩,⟨#[47]⟩,⟨#[37]⟩],.mt .factor])]
 |.object=>.op 28 [.fl (.nm),.again (.fn .detail)]
 |.index=>.op 29 [.fl (.wd 6 [⟨#[91]⟩]),.fl (.mt .list),.fl (.wd 6 [⟨#[93]⟩])]
 |.selection=>.op 30 [.fl (.wd 6 [⟨#[46]⟩]),.fl (.nm)]
 |.args=>.op 31 [.fl (.wd 6 [⟨#[40]⟩]),.once (.ex .list),.fl (.wd 6 [⟨#[41]⟩])]
 |.list=>.ex [.fl (.mt .expr),.again (.row [.wd 6 [⟨#[44]⟩],.mt .expr])]
 |.procedure=>.op 5 [.fl (.wd 2 [⟨#[112,114,111,99]⟩]),.fl (.nm),.once (.fn .bracket),.once (.row [.wd 6 [⟨#[58]⟩],.mt .kind]),.fl (.wd 6 [⟨#[59]⟩]),.fl (.mt .block),.fl (.wd 6 [⟨#[59]⟩])]
 |.kind=>if t.k == 1 then .op 8 [.fl .nm] else if t.is [97,114,114,97,121] then .op 9 [.fl (.wd 2 [⟨#[97,114,114,97,121]⟩]),.fl (.wd 6 [⟨#[91]⟩]),.fl (.mt .expr),.fl (.wd 6 [⟨#[46,46]⟩]),.fl (.mt .expr),.fl (.wd 6 [⟨#[93]⟩]),.fl (.wd 2 [⟨#[111,102]⟩]),.fl (.mt .kind)] else if t.is [114,101,99,111,114,100] then .op 10 [.fl (.wd 2 [⟨#[114,101,99,111,114,100]⟩]),.fl (.mt .member),.again (.row [.wd 6 [⟨#[59]⟩],.mt .member]),.fl (.wd 2 [⟨#[101,110,100]⟩])] else .ref
 |.statement=>if t.k == 1 then .op 14 [.fl (.mt .object),.once (.row [.wd 6 [⟨#[58,61]⟩],.mt .expr])] else aZ t.t
 |.factor=>if cP t == 25 then .op 25 [.fl (.wd 6 [⟨#[45]⟩]),.fl (.mt .factor)] else if cP t == 26 then .op 26 [.fl (.wd 2 [⟨#[110,111,116]⟩]),.fl (.mt .factor)] else if cP t == 27 then .op 27 [.fl (.wd 6 [⟨#[40]⟩]),.fl (.mt .expr),.fl (.wd 6 [⟨#[41]⟩])] else if cP t == 32 then .op 32 [.fl (.cs)] else if cP t == 28 then .ex [.fl (.mt .object)] else .ref
def et:List It:=[.fl (.wd 2 [⟨#[112,114,111,103,114,97,109]⟩]),.fl (.nm),.fl (.wd 6 [⟨#[59]⟩]),.fl (.mt .block),.fl (.wd 6 [⟨#[46]⟩])]
inductive Sr|tk|ref|go (d:Int) (o:List Ev) (r:List It)
def Gw.sr:Gw->Sr
 |.ref=>.ref
 |.ex r=>.go 0 [] r
 |.op nd r=>.go 1 [⟨1,nd,tv0⟩] (r++[.lv nd])
def Fl.step (t:Tv):Fl->Sr
 |.mt m=>(M.row t m).sr
 |x=>if x.takes t then .tk else .ref
def It.step (t:Tv):It->Sr
 |.fl x=>x.step t
 |.lv n=>.go (-1) [⟨3,n,tv0⟩] []
 |.once p=>.go 0 [] (Pk.pick t p).toList
 |.again p=>.go 0 [] (agR p (Pk.pick t p))
 |.all r=>.go 0 [] (r.map It.fl)
def rwf (r:List Fl):Prop:=(∃k ts rest,r=Fl.wd k ts :: rest)/\r.length<=8
def Pk.wf:Pk->Prop
 |.row r=>rwf r
 |_=>True
def It.wf:It->Prop
 |.once p=>p.wf
 |.again p=>p.wf
 |.all r=>rwf r
 |_=>True
def wfs (K:List It):Prop:=∀i∈K,i.wf
def lvs:List It->List Int
 |[]=>[]
 |.lv n :: K=>n :: lvs K
 |_ :: K=>lvs K
theorem bY (a b:List It):lvs (a++b)=lvs a++lvs b:=by
 induction a with
 |nil=>rfl
 |cons i r ih=>cases i <;> simp [lvs,ih]
theorem il (r:List Fl):lvs (r.map It.fl)=[]:=by
 induction r with
 |nil=>rfl
 |cons x r ih=>simp [lvs,ih]
theorem Ad (r:List Fl):wfs (r.map It.fl):=by
 intro i hi;obtain ⟨x,_,rfl⟩:=List.mem_map.1 hi
 trivial
theorem dy {a b:List It}(ha:wfs a) (hb:wfs b):wfs (a++b):=fun i hi=>(List.mem_append.1 hi).elim (ha i) (hb i)
theorem eF:wfs []:=fun _ h=>by cases h
theorem e5 {i:It}{K:List It}(hi:i.wf) (hK:wfs K):wfs (i :: K):=fun j hj=>(List.mem_cons.1 hj).elim (fun e=>e ▸ hi) (hK j)
def Gw.ok:Gw->Prop
 |.ref=>True
 |.ex r=>wfs r/\r.length<=10/\lvs r=[]
 |.op nd r=>wfs r/\r.length<=10/\lvs r=[]/\2<=nd/\nd<=32
theorem oC (s:ByteArray):(aZ s).ok:=by
 unfold aZ
 repeat' split
 all_goals simp [Gw.ok,wfs,It.wf,Pk.wf,rwf,lvs]
theorem ib (t:Tv) (m:M):(M.row t m).ok:=by
 cases m <;> simp only [M.row]
 case statement=>
  split
  ·simp [Gw.ok,wfs,It.wf,Pk.wf,rwf,lvs]
  ·exact oC _
 all_goals (repeat' split)
 all_goals simp [Gw.ok,wfs,It.wf,Pk.wf,rwf,lvs]
theorem iS {p:Pk}(hp:p.wf) {i:It}(h:Pk.pick t p=some i):i.wf/\lvs [i]=[]:=by
 cases p with
 |fn d=>
  simp only [Pk.pick,Option.map_eq_some_iff] at h;obtain ⟨m,_,rfl⟩:=h;exact ⟨trivial,rfl⟩
 |row r=>
  simp only [Pk.pick] at h
  split at h
  ·cases h;exact ⟨hp,rfl⟩
  ·cases h
 |ex m=>
  simp only [Pk.pick] at h
  split at h
  ·cases h
  ·cases h;exact ⟨trivial,rfl⟩
theorem dV {t:Tv}{i:It}{d:Int}{o:List Ev}{r K:List It}(h:It.step t i=.go d o r) (hi:i.wf) :
  wfs r/\r.length<=11/\o.length<=1/\((lvs (r++K)).length:Int)=(lvs (i :: K)).length+d:=by
 cases i with
 |fl x=>
  have hm:∃m,x=.mt m:=by
   cases x with
   |mt m=>exact ⟨m,rfl⟩
   |_=>simp only [It.step,Fl.step] at h;split at h <;> cases h
  obtain ⟨m,rfl⟩:=hm;have hr:=ib t m;simp only [It.step,Fl.step] at h;cases hrow:M.row t m with
  |ref=>rw [hrow] at h;cases h
  |ex r'=>
   rw [hrow] at h hr;cases h;refine ⟨hr.1,by have:=hr.2.1;omega,by simp,?_⟩;rw [bY,hr.2.2];simp [lvs]
  |op nd r'=>
   rw [hrow] at h hr;cases h;refine ⟨dy hr.1 (e5 trivial eF),by have:=hr.2.1;simp;omega,by simp,?_⟩;rw [bY,bY,hr.2.2.1];simp [lvs]
 |lv n=>
  cases h;refine ⟨eF,by simp,by simp,?_⟩;simp [lvs];omega
 |once p=>
  simp only [It.step] at h;cases hp:Pk.pick t p with
  |none=>rw [hp] at h;cases h;exact ⟨eF,by simp,by simp,by simp [lvs]⟩
  |some j=>
   rw [hp] at h;cases h;have:=iS hi hp;refine ⟨e5 this.1 eF,by simp,by simp,?_⟩;show ((lvs ([j]++K)).length:Int)=_;rw [bY,this.2];simp [lvs]
 |again p=>
  simp only [It.step] at h;cases hp:Pk.pick t p with
  |none=>rw [hp] at h;cases h;exact ⟨eF,by simp [agR],by simp,by simp [lvs,agR]⟩
  |some j=>
   rw [hp] at h;cases h;have:=iS hi hp;refine ⟨e5 this.1 (e5 hi eF),by simp [agR],by simp,?_⟩;show ((lvs ([j]++([.again p]++K))).length:Int)=_;rw [bY,this.2];simp [lvs]
 |all r'=>
  cases h;refine ⟨Ad r',by have:=hi.2;simp;omega,by simp,?_⟩;rw [bY,il];simp [lvs]
inductive Ro|no|yes (K:List It) (n:Int) (E:List Ev)
inductive Ru (t:Tv):Nat->List It->Int->List Ev->Ro->Prop
 |nil {n:Int} {E:List Ev}:Ru t 0 [] n E .no
 |ref {i:It} {K:List It} {n:Int} {E:List Ev}:It.step t i=.ref->Ru t 0 (i :: K) n E .no
 |tk {i:It} {K:List It} {n:Int} {E:List Ev}:It.step t i=.tk->Ru t 0 (i :: K) n E (.yes K n E)
 |go {k:Nat} {i:It} {K:List It} {n d:Int} {E o:List Ev} {r:List It} {R:Ro}:It.step t i=.go d o r->Ru t k (r++K) (n+d) (E++o) R->Ru t (k+1) (i :: K) n E R
def dv (t:Tv) (c:Nat) (i:It):Prop:=∀K n E,∃k R,k<=c/\Ru t k (i :: K) n E R
theorem fF (t:Tv) (x:Fl) (hx:∀m,x≠.mt m) (c:Nat):dv t c (.fl x):=by
 intro K n E
 have h:It.step t (.fl x)=if x.takes t then .tk else .ref:=by
  cases x with
  |mt m=>exact absurd rfl (hx m)
  |_=>rfl
 by_cases hb:x.takes t=true
 ·rw [if_pos hb] at h;exact ⟨0,_,Nat.zero_le _,.tk h⟩
 ·rw [if_neg hb] at h;exact ⟨0,_,Nat.zero_le _,.ref h⟩
theorem bv {t:Tv}{i j:It}{d:Int}{o:List Ev}{r:List It}{c:Nat}(h:It.step t i=.go d o (j :: r)) (hj:dv t c j):dv t (c+1) i:=by
 intro K n E;obtain ⟨k,R,hk,hR⟩:=hj (r++K) (n+d) (E++o);exact ⟨k+1,R,by omega,.go h hR⟩
theorem dv.up {c c':Nat}{i:It}(h:dv t c i) (hc:c<=c'):dv t c' i:=by
 intro K n E;obtain ⟨k,R,hk,hR⟩:=h K n E;exact ⟨k,R,by omega,hR⟩
theorem uq {i:It}(h:It.step t i=.ref) (c:Nat):dv t c i:=fun K n E=>⟨0,_,Nat.zero_le _,.ref h⟩
theorem iB {k:Int}{ts:List ByteArray}:∀m,Fl.wd k ts≠.mt m:=fun m h=>by cases h
theorem vz:∀m,Fl.nm≠.mt m:=fun m h=>by cases h
theorem Cd:∀m,Fl.cs≠.mt m:=fun m h=>by cases h
theorem jp {t:Tv}{i:It}{d:Int}{o:List Ev}{x:Fl}{r:List It}(h:It.step t i=.go d o (.fl x :: r)) (hx:∀m,x≠.mt m):dv t 1 i:=bv h (fF t x hx 0)
theorem fe (t:Tv):dv t 1 (.fl (.mt .object)):=jp rfl vz
theorem fW (t:Tv):dv t 1 (.fl (.mt .typed)):=jp rfl vz
theorem jq {t:Tv}{m:M}{c:Nat}(R:Gw) (hR:M.row t m=R) (h:R=.ref\/(∃x r,(∀m,x≠Fl.mt m)/\(R=.ex (.fl x :: r)\/∃nd,R=.op nd (.fl x :: r)))):dv t 1 (.fl (.mt m)):=by
 have hs:It.step t (.fl (.mt m))=R.sr:=by simp only [It.step,Fl.step,hR]
 rcases h with rfl|⟨x,r,hx,rfl|⟨nd,rfl⟩⟩
 ·exact uq hs 1
 ·exact jp hs hx
 ·exact jp (d:=1) (o:=[⟨1,nd,tv0⟩]) (x:=x) (r:=r++[It.lv nd]) hs hx
theorem iy (t:Tv):dv t 2 (.fl (.mt .factor)):=by
 by_cases h:cP t=28
 ·have hs:It.step t (.fl (.mt .factor))=.go 0 [] [.fl (.mt .object)]:=by simp [It.step,Fl.step,M.row,h,Gw.sr]
  exact bv hs (fe t)
 ·refine (jq (c:=0) _ rfl ?_).up (by omega);have h':(cP t == 28)=false:=by simpa using h
  simp only [M.row,h',Bool.false_eq_true,if_false]
  repeat' split
  all_goals first
   |exact .inl rfl
   |exact .inr ⟨_,_,iB,.inr ⟨_,rfl⟩⟩
   |exact .inr ⟨_,_,Cd,.inr ⟨_,rfl⟩⟩
   | (rename_i hh;simp at hh)
theorem rT (t:Tv):dv t 1 (.fl (.mt .kind)):=by
 refine jq (c:=0) _ rfl ?_;simp only [M.row]
 repeat' split
 all_goals first
  |exact .inl rfl
  |exact .inr ⟨_,_,iB,.inr ⟨_,rfl⟩⟩
  |exact .inr ⟨_,_,vz,.inr ⟨_,rfl⟩⟩
theorem fc (t:Tv):dv t 2 (.fl (.mt .statement)):=by
 by_cases h:(t.k == 1)=true
 ·have hs:It.step t (.fl (.mt .statement))=.go 1 [⟨1,14,tv0⟩] ([.fl (.mt .object),.once (.row [.wd 6 [⟨#[58,61]⟩],.mt .expr])]++[.lv 14]):=by simp [It.step,Fl.step,M.row,h,Gw.sr]
  exact bv (r:=[.once (.row [.wd 6 [⟨#[58,61]⟩],.mt .expr]),.lv 14]) hs (fe t)
 ·refine (jq (c:=0) _ rfl ?_).up (by omega);have h':(t.k == 1)=false:=by simpa using h
  simp only [M.row,h',Bool.false_eq_true,if_false,aZ]
  repeat' split
  all_goals first
   |exact .inl rfl
   |exact .inr ⟨_,_,iB,.inr ⟨_,rfl⟩⟩
   | (rename_i hh;simp at hh)
theorem kr (t:Tv):dv t 3 (.fl (.mt .term)):=bv rfl (iy t)
theorem mQ (t:Tv):dv t 4 (.fl (.mt .sum)):=bv rfl (kr t)
theorem mR (t:Tv):dv t 5 (.fl (.mt .rel)):=bv rfl (mQ t)
theorem kw (t:Tv):dv t 6 (.fl (.mt .expr)):=bv rfl (mR t)
theorem cB (t:Tv) (m:M) (h:m=.variables\/m=.constants\/m=.procedure\/m=.params\/m=.index\/m=.selection\/m=.args):dv t 1 (.fl (.mt m)):=by
 rcases h with rfl|rfl|rfl|rfl|rfl|rfl|rfl <;> exact jp rfl iB
theorem mc {d:Dk}{m:M}(h:d.pick t=some m):m=.variables\/m=.constants\/m=.procedure\/m=.params\/m=.index\/m=.selection\/m=.args:=by
 cases d <;> simp only [Dk.pick] at h <;> repeat' (split at h)
 all_goals first|(cases h;done)|(cases h;simp)
theorem oM (t:Tv):dv t 4 (.fl (.mt .block)):=by
 intro K n E;have hs:It.step t (.fl (.mt .block))=.go 1 [⟨1,2,tv0⟩] (.again (.fn .declaration) :: .fl (.wd 2 [⟨#[98,101,103,105,110]⟩]) :: [.fl (.mt .body),.fl (.wd 2 [⟨#[101,110,100]⟩]),.lv 2]):=rfl;cases hp:Dk.pick t .declaration with
 |none=>
  have h2:It.step t (.again (.fn .declaration))=.go 0 [] []:=by simp [It.step,Pk.pick,hp,agR]
  obtain ⟨k,R,hk,hR⟩:=fF t (.wd 2 [⟨#[98,101,103,105,110]⟩]) iB 0 ([.fl (.mt .body),.fl (.wd 2 [⟨#[101,110,100]⟩]),.lv 2]++K) (n+1+0) (E++[⟨1,2,tv0⟩]++[]);exact ⟨k+1+1,R,by omega,.go hs (.go h2 hR)⟩
 |some m=>
  have h2:It.step t (.again (.fn .declaration))=.go 0 [] (.fl (.mt m) :: [.again (.fn .declaration)]):=by simp [It.step,Pk.pick,hp,agR]
  exact ((bv hs (bv h2 (cB t m (mc hp)))).up (by omega)) K n E
theorem ll (t:Tv) (m:M):dv t 8 (.fl (.mt m)):=by
 cases m with
 |block=>exact (oM t).up (by omega)
 |variables=>exact (cB t _ (by simp)).up (by omega)
 |constants=>exact (cB t _ (by simp)).up (by omega)
 |procedure=>exact (cB t _ (by simp)).up (by omega)
 |params=>exact (cB t _ (by simp)).up (by omega)
 |param=>exact (bv rfl (fW t)).up (by omega)
 |typed=>exact (fW t).up (by omega)
 |kind=>exact (rT t).up (by omega)
 |member=>exact (bv rfl (fW t)).up (by omega)
 |body=>exact (bv rfl (fc t)).up (by omega)
 |statement=>exact (fc t).up (by omega)
 |expr=>exact (kw t).up (by omega)
 |rel=>exact (mR t).up (by omega)
 |sum=>exact (mQ t).up (by omega)
 |term=>exact (kr t).up (by omega)
 |factor=>exact (iy t).up (by omega)
 |object=>exact (fe t).up (by omega)
 |index=>exact (cB t _ (by simp)).up (by omega)
 |selection=>exact (cB t _ (by simp)).up (by omega)
 |args=>exact (cB t _ (by simp)).up (by omega)
 |list=>exact (bv rfl (kw t)).up (by omega)
theorem kv (t:Tv) (x:Fl):dv t 8 (.fl x):=by
 cases x with
 |mt m=>exact ll t m
 |_=>exact fF t _ (fun m h=>by cases h) 8
theorem fE {p:Pk}(hp:p.wf) {i:It}(h:Pk.pick t p=some i):dv t 9 i:=by
 cases p with
 |fn d=>
  simp only [Pk.pick,Option.map_eq_some_iff] at h;obtain ⟨m,_,rfl⟩:=h;exact (ll t m).up (by omega)
 |row r=>
  simp only [Pk.pick] at h
  split at h
  ·cases h;obtain ⟨⟨k,ts,rest,rfl⟩,_⟩:=hp;exact (bv (r:=rest.map It.fl) rfl (fF t (.wd k ts) iB 0)).up (by omega)
  ·cases h
 |ex m=>
  simp only [Pk.pick] at h
  split at h
  ·cases h
  ·cases h;exact (ll t m).up (by omega)
theorem zI (t:Tv):∀(K:List It),wfs K->∀n E,∃k R,k<=K.length+20/\Ru t k K n E R
 |[],_,n,E=>⟨0,_,Nat.zero_le _,.nil⟩
 |i :: K,hw,n,E=>by
  have hi:i.wf:=hw i (List.mem_cons_self ..);have hK:wfs K:=fun j hj=>hw j (List.mem_cons_of_mem _ hj)
  have pop:∀d o,It.step t i=.go d o []->∃k R,k<=(i :: K).length+20/\Ru t k (i :: K) n E R:=by
   intro d o h;obtain ⟨k,R,hk,hR⟩:=zI t K hK (n+d) (E++o);exact ⟨k+1,R,by simp;omega,.go h hR⟩
  have soon:∀c,c<=20->dv t c i->∃k R,k<=(i :: K).length+20/\Ru t k (i :: K) n E R:=by
   intro c hc h;obtain ⟨k,R,hk,hR⟩:=h K n E;exact ⟨k,R,by omega,hR⟩
  cases i with
  |fl x=>exact soon 8 (by omega) (kv t x)
  |lv nd=>exact pop _ _ rfl
  |once p=>
   cases hp:Pk.pick t p with
   |none=>exact pop 0 [] (by simp [It.step,hp])
   |some j=>exact soon 10 (by omega) (bv (r:=[]) (by simp [It.step,hp];exact ⟨rfl,rfl⟩) (fE hi hp))
  |again p=>
   cases hp:Pk.pick t p with
   |none=>exact pop 0 [] (by simp [It.step,hp,agR])
   |some j=>exact soon 10 (by omega) (bv (r:=[.again p]) (by simp [It.step,hp,agR];exact ⟨rfl,rfl⟩) (fE hi hp))
  |all r=>
   obtain ⟨⟨k,ts,rest,rfl⟩,_⟩:=hi;exact soon 1 (by omega) (bv (r:=rest.map It.fl) rfl (fF t (.wd k ts) iB 0))
inductive Pst|live (K:List It) (n:Int)|stuck (e n:Int)|shut
def beg (K:List It) (n:Int):List It:=if n == 0 then et++.lv 1 :: K else K
def cu (n:Int):Int:=if n == 0 then 1 else n
def aT (n:Int):List Ev:=if n == 0 then [⟨1,1,tv0⟩] else []
inductive fB (t:Tv):Pst->List Ev->Int->Pst->Prop
 |shut:fB t .shut [] 4 .shut
 |stuck {e n:Int}:fB t (.stuck e n) [] e (.stuck e n)
 |note {K:List It} {n:Int}:(t.k == 7 || t.k == 8)=true->fB t (.live K n) (aT n++[⟨4,0,t⟩]) 0 (.live (beg K n) (cu n))
 |no {K:List It} {n:Int} {k:Nat}:(t.k == 7 || t.k == 8)=false->Ru t k (beg K n) (cu n) (aT n) .no->k<=(beg K n).length+20->fB t (.live K n) [] 120 (.stuck 120 n)
 |deep {K L:List It} {n m:Int} {E:List Ev} {k:Nat}:(t.k == 7 || t.k == 8)=false->Ru t k (beg K n) (cu n) (aT n) (.yes L m E)->k<=(beg K n).length+20->1000<m->fB t (.live K n) [] 122 (.stuck 122 n)
 |yes {K L:List It} {n m:Int} {E:List Ev} {k:Nat}:(t.k == 7 || t.k == 8)=false->Ru t k (beg K n) (cu n) (aT n) (.yes L m E)->k<=(beg K n).length+20->m<=1000->fB t (.live K n) (E++[⟨2,0,t⟩]) 0 (.live L m)
structure Lz (K:List It) (n:Int):Prop where
 wf:wfs K
 lv:((lvs K).length:Int)=n
 sn:(lvs K).length<=5000000
 sk:K.length<=500000
def Pst.ok:Pst->Prop
 |.live K n=>Lz K n
 |.stuck e n=>e≠0
 |.shut=>True
inductive mI:Pst->List Ev->Int->Prop
 |shut:mI .shut [] 4
 |stuck {e n:Int}:mI (.stuck e n) [] e
 |all {K:List It} {n:Int}:K.length=1->mI (.live K n) [⟨3,1,tv0⟩] 0
 |open {K:List It} {n:Int}:K.length≠1->mI (.live K n) [] 121
def Fl.ht:Fl->Nat
 |.mt .typed=>5
 |.mt .list=>3
 |_=>1
def rh:List Fl->Nat
 |[]=>0
 |x :: r=>max (x.ht+r.length) (rh r)
def Pk.ht:Pk->Nat
 |.row r=>rh r
 |.fn _=>1
 |.ex m=>(Fl.mt m).ht
def It.ht:It->Nat
 |.fl x=>x.ht
 |.lv _=>0
 |.once p=>max 1 p.ht
 |.again p=>1+max 1 p.ht
 |.all r=>max 1 (rh r)
def cnt:List It->Nat
 |[]=>0
 |.lv _ :: _=>0
 |_ :: K=>1+cnt K
def fb:List It->Prop
 |[]=>True
 |.lv _ :: K=>fb K
 |i :: K=>i.ht+cnt K<=15/\fb K
theorem Fl.ht_pos (x:Fl):1<=x.ht:=by
 cases x with
 |mt m=>cases m <;> decide
 |_=>exact Nat.le_refl _
theorem It.ht_pos (i:It) (h:∀n,i≠.lv n):1<=i.ht:=by
 cases i with
 |fl x=>exact x.ht_pos
 |lv n=>exact absurd rfl (h n)
 |once p=>simp only [It.ht];omega
 |again p=>simp only [It.ht];omega
 |all r=>simp only [It.ht];omega
theorem gK {i:It}(h:∀n,i≠.lv n) (K:List It):cnt (i :: K)=1+cnt K:=by
 cases i with
 |lv n=>exact absurd rfl (h n)
 |_=>rfl
theorem cY {i:It}(h:∀n,i≠.lv n) (K:List It):fb (i :: K)↔i.ht+cnt K<=15/\fb K:=by
 cases i with
 |lv n=>exact absurd rfl (h n)
 |_=>exact Iff.rfl
theorem pD:∀{K:List It},fb K->cnt K<=15
 |[],_=>Nat.zero_le _
 |i :: K,h=>by
  by_cases hl:∃n,i=.lv n
  ·obtain ⟨n,rfl⟩:=hl;exact Nat.zero_le _
  ·have hn:∀n,i≠.lv n:=fun n e=>hl ⟨n,e⟩
   have h1:=((cY hn K).1 h).1;have:=i.ht_pos hn;rw [gK hn];omega
theorem lZ:∀{K:List It},fb K->K.length<=16*(lvs K).length+cnt K
 |[],_=>Nat.zero_le _
 |i :: K,h=>by
  by_cases hl:∃n,i=.lv n
  ·obtain ⟨n,rfl⟩:=hl;have h':fb K:=h;have:=lZ h';have:=pD h';simp [lvs,cnt];omega
  ·have hn:∀n,i≠.lv n:=fun n e=>hl ⟨n,e⟩
   have:=lZ ((cY hn K).1 h).2
   have e:lvs (i :: K)=lvs K:=by
    cases i with
    |lv n=>exact absurd rfl (hn n)
    |_=>rfl
   rw [gK hn,e];simp;omega
theorem A8 (r:List Fl) (K:List It) (h:rh r+cnt K<=15) (hK:fb K):fb (r.map It.fl++K)/\cnt (r.map It.fl++K)=r.length+cnt K:=by
 induction r with
 |nil=>exact ⟨hK,by simp⟩
 |cons x r ih=>
  simp only [rh] at h;obtain ⟨h1,h2⟩:=ih (by omega);refine ⟨(cY (fun n e=>by cases e) _).2 ⟨?_,h1⟩,?_⟩
  ·show x.ht+cnt (r.map It.fl++K)<=15
   rw [h2];omega
  ·show cnt (.fl x :: (r.map It.fl++K))=_
   rw [gK (fun n e=>by cases e),h2,List.length_cons];omega
theorem qD {p:Pk}{i:It}(h:Pk.pick t p=some i):i.ht<=max 1 p.ht/\∀n,i≠.lv n:=by
 cases p with
 |fn d=>
  simp only [Pk.pick,Option.map_eq_some_iff] at h;obtain ⟨m,hm,rfl⟩:=h;have:=mc hm;refine ⟨?_,fun n e=>by cases e⟩
  rcases this with rfl|rfl|rfl|rfl|rfl|rfl|rfl <;> exact Nat.le_refl 1
 |row r=>
  simp only [Pk.pick] at h
  split at h
  ·cases h;exact ⟨Nat.le_refl _,fun n e=>by cases e⟩
  ·cases h
 |ex m=>
  simp only [Pk.pick] at h
  split at h
  ·cases h
  ·cases h;exact ⟨by show (Fl.mt m).ht<=max 1 (Fl.mt m).ht;omega,fun n e=>by cases e⟩
def Gw.fb (m:M):Gw->Prop
 |.ref=>True
 |.ex r=>∀K,(Fl.mt m).ht+cnt K<=15->Go.Proofs.YtpdlohfdjiaegaaGreatDoor.fb K->Go.Proofs.YtpdlohfdjiaegaaGreatDoor.fb (r++K)
 |.op nd r=>∀K,Go.Proofs.YtpdlohfdjiaegaaGreatDoor.fb K->Go.Proofs.YtpdlohfdjiaegaaGreatDoor.fb (r++.lv nd :: K)
theorem AE (t:Tv) (m:M):(M.row t m).fb m:=by
 cases m <;> simp only [M.row,aZ] <;> (repeat' split) <;> simp [Gw.fb,fb,cnt,It.ht,Fl.ht,Pk.ht,rh]
 all_goals (intro K h1 h2;simp only [h2,and_true];omega)
theorem lh {i:It}{d:Int}{o:List Ev}{r K:List It}(h:It.step t i=.go d o r) (hf:fb (i :: K)):fb (r++K):=by
 cases i with
 |fl x=>
  obtain ⟨h1,h2⟩:=(cY (fun n e=>by cases e) K).1 hf
  have hm:∃m,x=.mt m:=by
   cases x with
   |mt m=>exact ⟨m,rfl⟩
   |_=>simp only [It.step,Fl.step] at h;split at h <;> cases h
  obtain ⟨m,rfl⟩:=hm;have hr:=AE t m;simp only [It.step,Fl.step] at h;cases hrow:M.row t m with
  |ref=>rw [hrow] at h;cases h
  |ex r'=>rw [hrow] at h hr;cases h;exact hr K h1 h2
  |op nd r'=>rw [hrow] at h hr;cases h;rw [List.append_assoc];exact hr K h2
 |lv n=>cases h;exact hf
 |once p=>
  obtain ⟨h1,h2⟩:=(cY (fun n e=>by cases e) K).1 hf;simp only [It.step] at h;cases hp:Pk.pick t p with
  |none=>rw [hp] at h;cases h;exact h2
  |some j=>
   rw [hp] at h;cases h;obtain ⟨a,b⟩:=qD hp;exact (cY b K).2 ⟨by simp only [It.ht] at h1;omega,h2⟩
 |again p=>
  have hn:∀n,It.again p≠.lv n:=fun n e=>by cases e
  obtain ⟨h1,h2⟩:=(cY hn K).1 hf;simp only [It.step] at h;cases hp:Pk.pick t p with
  |none=>rw [hp] at h;cases h;exact h2
  |some j=>
   rw [hp] at h;cases h;obtain ⟨a,b⟩:=qD hp;refine (cY b _).2 ⟨?_,hf⟩;show j.ht+cnt (.again p :: K)<=15;rw [gK hn];simp only [It.ht] at h1;omega
 |all r'=>
  obtain ⟨h1,h2⟩:=(cY (fun n e=>by cases e) K).1 hf;cases h;exact (A8 r' K (by simp only [It.ht] at h1;omega) h2).1
def cJ:List Int->List Ev->Option (List Int)
 |s,[]=>some s
 |s,e :: r=>if e.k=1 then cJ (e.n :: s) r else if e.k=3 then (match s with|n :: s'=>if n=e.n then cJ s' r else none|[]=>none) else cJ s r
theorem cI:∀(a b:List Ev) (s s':List Int),cJ s a=some s'->cJ s (a++b)=cJ s' b
 |[],b,s,s',h=>by cases h;rfl
 |e :: r,b,s,s',h=>by
  simp only [cJ,List.cons_append] at h ⊢
  split
  ·rename_i h1;rw [if_pos h1] at h;exact cI r b _ _ h
  ·rename_i h1
   rw [if_neg h1] at h
   split
   ·rename_i h2
    rw [if_pos h2] at h;cases s with
    |nil=>cases h
    |cons n s=>
     simp only at h ⊢
     split
     ·rename_i h3;rw [if_pos h3] at h;exact cI r b _ _ h
     ·rename_i h3;rw [if_neg h3] at h;cases h
   ·rename_i h2;rw [if_neg h2] at h;exact cI r b _ _ h
theorem g7 {t:Tv}{i:It}{d:Int}{o:List Ev}{r K:List It}(h:It.step t i=.go d o r) (hi:i.wf):cJ (lvs (i :: K)) o=some (lvs (r++K)):=by
 have hk:=dV (K:=K) h hi;cases i with
 |fl x=>
  have hm:∃m,x=.mt m:=by
   cases x with
   |mt m=>exact ⟨m,rfl⟩
   |_=>simp only [It.step,Fl.step] at h;split at h <;> cases h
  obtain ⟨m,rfl⟩:=hm;have hr:=ib t m;simp only [It.step,Fl.step] at h;cases hrow:M.row t m with
  |ref=>rw [hrow] at h;cases h
  |ex r'=>rw [hrow] at h hr;cases h;rw [bY,hr.2.2];rfl
  |op nd r'=>rw [hrow] at h hr;cases h;rw [bY,bY,hr.2.2.1];rfl
 |lv n=>cases h;simp [cJ,lvs]
 |once p=>
  simp only [It.step] at h;cases hp:Pk.pick t p with
  |none=>rw [hp] at h;cases h;rfl
  |some j=>rw [hp] at h;cases h;show some (lvs K)=some (lvs ([j]++K));rw [bY,(iS hi hp).2];rfl
 |again p=>
  simp only [It.step] at h;cases hp:Pk.pick t p with
  |none=>rw [hp] at h;cases h;rfl
  |some j=>rw [hp] at h;cases h;show some (lvs K)=some (lvs ([j]++([.again p]++K)));rw [bY,(iS hi hp).2];rfl
 |all r'=>cases h;rw [bY,il];rfl
structure Ok (K:List It) (n:Int):Prop where
 wf:wfs K
 fb:fb K
 lv:((lvs K).length:Int)=n
 le:n<=1000
theorem Ok.lz {K:List It}(h:Ok K n):Lz K n:=by
 have h1:=h.lv;have h2:=h.le;have h3:=lZ h.fb;have h4:=pD h.fb;exact ⟨h.wf,h.lv,by omega,by omega⟩
theorem eI {K:List It}{R:Ro}(h:Ru t k K n E R):∀{L:List It}{m:Int}{F:List Ev},R=.yes L m F->wfs K->fb K->((lvs K).length:Int)=n ->
  wfs L/\fb L/\((lvs L).length:Int)=m/\∃o,F=E++o/\cJ (lvs K) o=some (lvs L)/\(∀e∈o,e.d=tv0/\(e.k=1\/e.k=3)/\(e.k=1->e.n≠1))/\o.length<=k:=by
 induction h with
 |nil=>intro L m F h;cases h
 |ref _=>intro L m F h;cases h
 |tk hs=>
  rename_i i K n E
  intro L m F h hw hf hn;cases h;have hl:∀a,i≠.lv a:=fun a e=>by subst e;cases hs
  have e:lvs (i :: K)=lvs K:=by
   cases i with
   |lv a=>exact absurd rfl (hl a)
   |_=>rfl
  rw [e] at hn;exact ⟨fun j hj=>hw j (List.mem_cons_of_mem _ hj),((cY hl K).1 hf).2,hn,[],by simp,by rw [e];rfl,fun x hx=>by simp at hx,Nat.zero_le _⟩
 |go hs _ ih=>
  rename_i k i K n d E o r R _
  intro L m F h hw hf hn;have hi:=hw i (List.mem_cons_self ..);obtain ⟨a1,a2,a3,a4⟩:=dV (K:=K) hs hi;obtain ⟨b1,b2,b3,o2,b4,b5,b6,b7⟩:=ih h (dy a1 (fun j hj=>hw j (List.mem_cons_of_mem _ hj))) (lh hs hf) (by omega);refine ⟨b1,b2,b3,o++o2,by rw [b4,List.append_assoc],(cI o o2 _ _ (g7 hs hi)).trans b5,?_,by simp;omega⟩;intro x hx
  rcases List.mem_append.1 hx with hx|hx
  ·cases i with
   |fl y=>
    have hm:∃m,y=.mt m:=by
     cases y with
     |mt m=>exact ⟨m,rfl⟩
     |_=>simp only [It.step,Fl.step] at hs;split at hs <;> cases hs
    obtain ⟨mm,rfl⟩:=hm;have hr:=ib t mm;simp only [It.step,Fl.step] at hs;cases hrow:M.row t mm with
    |ref=>rw [hrow] at hs;cases hs
    |ex r'=>rw [hrow] at hs;cases hs;simp at hx
    |op nd r'=>rw [hrow] at hs hr;cases hs;simp at hx;subst hx;exact ⟨rfl,.inl rfl,fun _=>by have:=hr.2.2.2.1;show nd≠1;omega⟩
   |lv a=>cases hs;simp at hx;subst hx;exact ⟨rfl,.inr rfl,fun e=>by cases e⟩
   |once p=>cases hs;simp at hx
   |again p=>cases hs;simp at hx
   |all r'=>cases hs;simp at hx
  ·exact b6 x hx
theorem AT {K:List It}(h:Ok K n) (h0:n=0->K=[]):wfs (beg K n)/\fb (beg K n)/\((lvs (beg K n)).length:Int)=cu n/\cJ (lvs K) (aT n)=some (lvs (beg K n))/\(beg K n).length<=20000:=by
 have hz:=h.lz;have h3:=lZ h.fb;have h4:=pD h.fb;have h1:=h.lv;have h2:=h.le
 by_cases hn:n=0
 ·obtain rfl:=h0 hn;subst hn;refine ⟨?_,?_,rfl,rfl,by simp [beg,et]⟩
  ·intro i hi;simp [beg,et] at hi
   rcases hi with rfl|rfl|rfl|rfl|rfl|rfl <;> trivial
  ·simp [beg,et,fb,It.ht,Fl.ht,cnt]
 ·have hb:(n == 0)=false:=by simpa using hn
  simp only [beg,cu,aT,hb,Bool.false_eq_true,if_false];exact ⟨h.wf,h.fb,h.lv,rfl,by omega⟩
def Bot (K:List It):Prop:=∃X,K=X++[.lv 1]
theorem lu {K:List It}{R:Ro}(h:Ru t k K n E R):∀{L:List It}{m:Int}{F:List Ev},R=.yes L m F->Bot K->Bot L:=by
 induction h with
 |nil=>intro L m F h;cases h
 |ref _=>intro L m F h;cases h
 |tk hs=>
  rename_i i K n E
  intro L m F h hb;cases h;obtain ⟨X,hX⟩:=hb;cases X with
  |nil=>simp at hX;obtain ⟨rfl,rfl⟩:=hX;cases hs
  |cons j X=>simp at hX;exact ⟨X,hX.2⟩
 |go hs hr ih=>
  rename_i k i K n d E o r R
  intro L m F h hb;obtain ⟨X,hX⟩:=hb;cases X with
  |nil=>
   simp at hX;obtain ⟨rfl,rfl⟩:=hX;cases hs;cases hr;cases h
  |cons j X=>
   simp at hX;obtain ⟨rfl,rfl⟩:=hX;exact ih h ⟨r++X,by simp⟩
theorem fZ {K:List It}(h:Bot K):1<=(lvs K).length:=by
 obtain ⟨X,rfl⟩:=h;rw [bY];simp [lvs]
def eU:Pst->Prop
 |.live K n=>Ok K n/\((n=0/\K=[])\/Bot K)
 |.stuck e n=>e=120\/e=122
 |.shut=>True
theorem eU.ok {st:Pst}(h:eU st):st.ok:=by
 cases st with
 |live K n=>exact h.1.lz
 |stuck e n=>
  show e≠0
  rcases h with rfl|rfl <;> decide
 |shut=>trivial
theorem dm:eU (.live [] 0):=⟨⟨eF,trivial,rfl,by decide⟩,.inl ⟨rfl,rfl⟩⟩
def Pst.path:Pst->List Int
 |.live K _=>lvs K
 |_=>[]
theorem cm {K:List It}(h:eU (.live K n)):wfs (beg K n)/\fb (beg K n)/\((lvs (beg K n)).length:Int)=cu n/\cJ (lvs K) (aT n)=some (lvs (beg K n))/\(beg K n).length<=20000/\Bot (beg K n)/\cu n<=1000/\(aT n).length<=1:=by
 have hn0:n=0->K=[]:=by
  intro e
  rcases h.2 with h2|h2
  ·exact h2.2
  ·have:=fZ h2;have:=h.1.lv;omega
 obtain ⟨b1,b2,b3,b4,b5⟩:=AT h.1 hn0;have hle:=h.1.le;refine ⟨b1,b2,b3,b4,b5,?_,by unfold cu;split <;> omega,by unfold aT;split <;> simp⟩
 by_cases e:n=0
 ·obtain rfl:=hn0 e;subst e;exact ⟨et,by simp [beg]⟩
 ·rcases h.2 with h2|h2
  ·exact absurd h2.1 e
  ·have hb:(n == 0)=false:=by simpa using e
   simp only [beg,hb,Bool.false_eq_true,if_false];exact h2
theorem dh {st st':Pst}{ev:List Ev}(h:eU st) (hp:fB t st ev code st'):eU st'/\ev.length<=30000/\(code=0->∃K n,st'=.live K n/\Bot K)/\(code=0->cJ st.path ev=some st'.path):=by
 cases hp with
 |shut=>exact ⟨trivial,by simp,fun h=>(by cases h),fun h=>(by cases h)⟩
 |stuck=>exact ⟨h,by simp,fun h0=>(by subst h0;rcases h with h|h <;> cases h),fun h0=>(by subst h0;rcases h with h|h <;> cases h)⟩
 |note hc=>
  obtain ⟨b1,b2,b3,b4,b5,hbot,hbn,hbe⟩:=cm h;refine ⟨⟨⟨b1,b2,b3,hbn⟩,.inr hbot⟩,by simp;omega,fun _=>⟨_,_,rfl,hbot⟩,fun _=>?_⟩;refine (cI _ _ _ _ b4).trans ?_;simp [cJ];rfl
 |no hc hR hk=>exact ⟨.inl rfl,by simp,fun h=>(by cases h),fun h=>(by cases h)⟩
 |deep hc hR hk hm=>exact ⟨.inr rfl,by simp,fun h=>(by cases h),fun h=>(by cases h)⟩
 |yes hc hR hk hm=>
  obtain ⟨b1,b2,b3,b4,b5,hbot,hbn,hbe⟩:=cm h;obtain ⟨c1,c2,c3,o,c4,c5,c6,c7⟩:=eI hR rfl b1 b2 b3;have hL:=lu hR rfl hbot;refine ⟨⟨⟨c1,c2,c3,by omega⟩,.inr hL⟩,by rw [c4];simp;omega,fun _=>⟨_,_,rfl,hL⟩,fun _=>?_⟩;rw [c4,List.append_assoc];refine (cI _ _ _ _ b4).trans ((cI _ _ _ _ c5).trans ?_);simp [cJ];rfl
theorem AL {st:Pst}(h:eU st) (t:Tv):∃ev code st',fB t st ev code st':=by
 cases st with
 |shut=>exact ⟨_,_,_,.shut⟩
 |stuck e n=>exact ⟨_,_,_,.stuck⟩
 |live K n=>
  obtain ⟨b1,b2,b3,b4,b5,hbot,hbn,hbe⟩:=cm h
  by_cases hc:(t.k == 7 || t.k == 8)=true
  ·exact ⟨_,_,_,.note hc⟩
  ·have hc':(t.k == 7 || t.k == 8)=false:=by simpa using hc
   obtain ⟨k,R,hk,hR⟩:=zI t (beg K n) b1 (cu n) (aT n);cases R with
   |no=>exact ⟨_,_,_,.no hc' hR hk⟩
   |yes L m F=>
    by_cases hm:1000<m
    ·exact ⟨_,_,_,.deep hc' hR hk hm⟩
    ·exact ⟨_,_,_,.yes hc' hR hk (by omega)⟩
theorem wE (st:Pst):∃ev code,mI st ev code/\ev.length<=1:=by
 cases st with
 |live K n=>
  by_cases h:K.length=1
  ·exact ⟨_,_,.all h,by simp⟩
  ·exact ⟨_,_,.open h,by simp⟩
 |stuck e n=>exact ⟨_,_,.stuck,by simp⟩
 |shut=>exact ⟨_,_,.shut,by simp⟩
inductive Alr:Pst->List Tv->List Ev->Int->Nat->Prop
 |nil {st:Pst} {ev:List Ev} {code:Int}:mI st ev code->Alr st [] ev code 0
 |err {st st':Pst} {t:Tv} {l:List Tv} {ev:List Ev} {code:Int}:fB t st ev code st'->code≠0->Alr st (t :: l) [] code 0
 |on {st st':Pst} {t:Tv} {l:List Tv} {ev E:List Ev} {code:Int} {k:Nat}:fB t st ev 0 st'->Alr st' l E code k->Alr st (t :: l) (ev++E) code (k+1)
theorem xb:∀(l:List Tv) (st:Pst),eU st->∃E code k,Alr st l E code k
 |[],st,h=>by
  obtain ⟨ev,code,h1,_⟩:=wE st;exact ⟨_,_,_,.nil h1⟩
 |t :: l,st,h=>by
  obtain ⟨ev,code,st',h1⟩:=AL h t;have h2:=(dh h h1).1
  by_cases hc:code=0
  ·subst hc;obtain ⟨E,c,k,h3⟩:=xb l st' h2;exact ⟨_,_,_,.on h1 h3⟩
  ·exact ⟨_,_,_,.err h1 hc⟩
theorem Alr.inv {st:Pst}{l:List Tv}(h:Alr st (t :: l) E code k):(∃ev st',fB t st ev code st'/\code≠0/\E=[]/\k=0)\/(∃ev st' E2 k2,fB t st ev 0 st'/\Alr st' l E2 code k2/\E=ev++E2/\k=k2+1):=by
 cases h with
 |err h1 h2=>exact .inl ⟨_,_,h1,h2,rfl,rfl⟩
 |on h1 h2=>exact .inr ⟨_,_,_,_,h1,h2,rfl,rfl⟩
theorem Alr.end {st:Pst}(h:Alr st [] E code k):mI st E code/\k=0:=by
 cases h with
 |nil h1=>exact ⟨h1,rfl⟩
end Go.Proofs.YtpdlohfdjiaegaaGreatDoor
