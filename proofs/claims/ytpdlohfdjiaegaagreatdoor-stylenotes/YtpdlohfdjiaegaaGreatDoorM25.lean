import Derived.Test.YtpdlohfdjiaegaaGreatDoorM01
set_option linter.unusedVariables false
set_option linter.unusedSimpArgs false
namespace Go.Proofs.YtpdlohfdjiaegaaGreatDoor
open Go.RowKit
inductive M|block|variables|constants|procedure|params|param|typed|kind|member|body|statement|expr|rel|sum|term|factor|object|index|selection|args|list
deriving DecidableEq
inductive Dk|declaration|bracket|detail
deriving DecidableEq
inductive Fl|wd (k:Int) (ts:List ByteArray)|nm|cs|mt (m:M)
inductive Pk|fn (d:Dk)|row (r:List Fl)|ex (m:M)
inductive It|fl (x:Fl)|lv (n:Int)|once (p:Pk)|again (p:Pk)|all (r:List Fl)
theorem btl_inj {a b:ByteArray}(h:a.toList=b.toList):a=b:=by
 rw [ByteArray.toList_eq,ByteArray.toList_eq] at h
 have:=Array.toList_inj.1 h
 cases a;cases b;simp_all
theorem btl_eq (a b:ByteArray):(a.toList == b.toList)=decide (a=b):=by
 by_cases e:a=b
 ·subst e;simp
 ·have:¬a.toList=b.toList:=fun h=>e (btl_inj h)
  simp [e,this]
def has (l:List ByteArray) (s:ByteArray):Bool:=l.any (fun x=>decide (s=x))
def Tv.is (t:Tv) (l:List UInt8):Bool:=t.t.toList == l
def Fl.takes (t:Tv):Fl→Bool
 |.wd k ts=>t.k == k && has ts t.t
 |.nm=>t.k == 1
 |.cs=>t.k == 3 || t.k == 4 || t.k == 5
 |.mt _=>false
def facN (t:Tv):Int:=
 if t.k == 6 && t.is [45] then 25 else if t.k == 2 && t.is [110,111,116] then 26 else if t.k == 6 && t.is [40] then 27
 else if t.k == 3 || t.k == 4 || t.k == 5 then 32 else if t.k == 1 then 28 else 0
def Dk.pick (t:Tv):Dk→Option M
 |.declaration=>if t.is [118,97,114] then some .variables else if t.is [99,111,110,115,116] then some .constants else if t.is [112,114,111,99] then some .procedure else none
 |.bracket=>if t.is [40] then some .params else none
 |.detail=>if t.is [91] then some .index else if t.is [46] then some .selection else if t.is [40] then some .args else none
def Pk.pick (t:Tv):Pk→Option It
 |.fn d=>(d.pick t).map (fun m=>.fl (.mt m))
 |.row r=>if (r.head?.elim false (fun x=>x.takes t)) then some (.all r) else none
 |.ex m=>if facN t == 0 then none else some (.fl (.mt m))
def agR (p:Pk):Option It→List It
 |none=>[]
 |some i=>[i,.again p]
inductive Gw|ref|ex (r:List It)|op (n:Int) (r:List It)
def wordedR (s:ByteArray):Gw:=
 if s.toList == [115,107,105,112] then .op 13 [.fl (.wd 2 [s])]
 else if s.toList == [105,102] then .op 15 [.fl (.wd 2 [s]),.fl (.mt .expr),.fl (.wd 2 [⟨#[116,104,101,110]⟩]),.fl (.mt .body),.again (.row [.wd 2 [⟨#[101,108,105,102]⟩],.mt .expr,.wd 2 [⟨#[116,104,101,110]⟩],.mt .body]),.once (.row [.wd 2 [⟨#[101,108,115,101]⟩],.mt .body]),.fl (.wd 2 [⟨#[101,110,100]⟩])]
 else if s.toList == [119,104,105,108,101] then .op 16 [.fl (.wd 2 [s]),.fl (.mt .expr),.fl (.wd 2 [⟨#[100,111]⟩]),.fl (.mt .body),.fl (.wd 2 [⟨#[101,110,100]⟩])]
 else if s.toList == [102,111,114] then .op 17 [.fl (.wd 2 [s]),.fl (.nm),.fl (.wd 6 [⟨#[58,61]⟩]),.fl (.mt .expr),.fl (.wd 2 [⟨#[116,111]⟩]),.fl (.mt .expr),.fl (.wd 2 [⟨#[100,111]⟩]),.fl (.mt .body),.fl (.wd 2 [⟨#[101,110,100]⟩])]
 else if s.toList == [114,101,112,101,97,116] then .op 18 [.fl (.wd 2 [s]),.fl (.mt .body),.fl (.wd 2 [⟨#[117,110,116,105,108]⟩]),.fl (.mt .expr)]
 else if s.toList == [114,101,116,117,114,110] then .op 19 [.fl (.wd 2 [s]),.once (.ex .expr)]
 else if s.toList == [98,101,103,105,110] then .op 20 [.fl (.wd 2 [s]),.fl (.mt .body),.fl (.wd 2 [⟨#[101,110,100]⟩])]
 else .ref
def M.row (t:Tv):M→Gw
 |.block=>.op 2 [.again (.fn .declaration),.fl (.wd 2 [⟨#[98,101,103,105,110]⟩]),.fl (.mt .body),.fl (.wd 2 [⟨#[101,110,100]⟩])]
 |.variables=>.op 3 [.fl (.wd 2 [⟨#[118,97,114]⟩]),.fl (.mt .typed),.fl (.wd 6 [⟨#[59]⟩])]
 |.constants=>.op 4 [.fl (.wd 2 [⟨#[99,111,110,115,116]⟩]),.fl (.nm),.fl (.wd 6 [⟨#[61]⟩]),.fl (.mt .expr),.fl (.wd 6 [⟨#[59]⟩])]
 |.params=>.op 6 [.fl (.wd 6 [⟨#[40]⟩]),.fl (.mt .param),.again (.row [.wd 6 [⟨#[59]⟩],.mt .param]),.fl (.wd 6 [⟨#[41]⟩])]
 |.param=>.op 7 [.fl (.mt .typed)]
 |.typed=>.ex [.fl (.nm),.again (.row [.wd 6 [⟨#[44]⟩],.nm]),.fl (.wd 6 [⟨#[58]⟩]),.fl (.mt .kind)]
 |.member=>.op 11 [.fl (.mt .typed)]
 |.body=>.op 12 [.fl (.mt .statement),.again (.row [.wd 6 [⟨#[59]⟩],.mt .statement])]
 |.expr=>.op 21 [.fl (.mt .rel),.again (.row [.wd 2 [⟨#[97,110,100]⟩,⟨#[111,114]⟩],.mt .rel])]
 |.rel=>.op 22 [.fl (.mt .sum),.once (.row [.wd 6 [⟨#[61]⟩,⟨#[35]⟩,⟨#[60]⟩,⟨#[60,61]⟩,⟨#[62]⟩,⟨#[62,61]⟩],.mt .sum])]
 |.sum=>.op 23 [.fl (.mt .term),.again (.row [.wd 6 [⟨#[43]⟩,⟨#[45]⟩],.mt .term])]
 |.term=>.op 24 [.fl (.mt .factor),.again (.row [.wd 6 [⟨#[42]⟩,⟨#[47]⟩,⟨#[37]⟩],.mt .factor])]
 |.object=>.op 28 [.fl (.nm),.again (.fn .detail)]
 |.index=>.op 29 [.fl (.wd 6 [⟨#[91]⟩]),.fl (.mt .list),.fl (.wd 6 [⟨#[93]⟩])]
 |.selection=>.op 30 [.fl (.wd 6 [⟨#[46]⟩]),.fl (.nm)]
 |.args=>.op 31 [.fl (.wd 6 [⟨#[40]⟩]),.once (.ex .list),.fl (.wd 6 [⟨#[41]⟩])]
 |.list=>.ex [.fl (.mt .expr),.again (.row [.wd 6 [⟨#[44]⟩],.mt .expr])]
 |.procedure=>.op 5 [.fl (.wd 2 [⟨#[112,114,111,99]⟩]),.fl (.nm),.once (.fn .bracket),.once (.row [.wd 6 [⟨#[58]⟩],.mt .kind]),.fl (.wd 6 [⟨#[59]⟩]),.fl (.mt .block),.fl (.wd 6 [⟨#[59]⟩])]
 |.kind=>if t.k == 1 then .op 8 [.fl .nm] else if t.is [97,114,114,97,121] then .op 9 [.fl (.wd 2 [⟨#[97,114,114,97,121]⟩]),.fl (.wd 6 [⟨#[91]⟩]),.fl (.mt .expr),.fl (.wd 6 [⟨#[46,46]⟩]),.fl (.mt .expr),.fl (.wd 6 [⟨#[93]⟩]),.fl (.wd 2 [⟨#[111,102]⟩]),.fl (.mt .kind)] else if t.is [114,101,99,111,114,100] then .op 10 [.fl (.wd 2 [⟨#[114,101,99,111,114,100]⟩]),.fl (.mt .member),.again (.row [.wd 6 [⟨#[59]⟩],.mt .member]),.fl (.wd 2 [⟨#[101,110,100]⟩])] else .ref
 |.statement=>if t.k == 1 then .op 14 [.fl (.mt .object),.once (.row [.wd 6 [⟨#[58,61]⟩],.mt .expr])] else wordedR t.t
 |.factor=>if facN t == 25 then .op 25 [.fl (.wd 6 [⟨#[45]⟩]),.fl (.mt .factor)] else if facN t == 26 then .op 26 [.fl (.wd 2 [⟨#[110,111,116]⟩]),.fl (.mt .factor)] else if facN t == 27 then .op 27 [.fl (.wd 6 [⟨#[40]⟩]),.fl (.mt .expr),.fl (.wd 6 [⟨#[41]⟩])] else if facN t == 32 then .op 32 [.fl (.cs)] else if facN t == 28 then .ex [.fl (.mt .object)] else .ref
def progR:List It:=[.fl (.wd 2 [⟨#[112,114,111,103,114,97,109]⟩]),.fl (.nm),.fl (.wd 6 [⟨#[59]⟩]),.fl (.mt .block),.fl (.wd 6 [⟨#[46]⟩])]
inductive Sr|tk|ref|go (d:Int) (o:List Ev) (r:List It)
def Gw.sr:Gw→Sr
 |.ref=>.ref
 |.ex r=>.go 0 [] r
 |.op nd r=>.go 1 [⟨1,nd,tv0⟩] (r++[.lv nd])
def Fl.step (t:Tv):Fl→Sr
 |.mt m=>(M.row t m).sr
 |x=>if x.takes t then .tk else .ref
def It.step (t:Tv):It→Sr
 |.fl x=>x.step t
 |.lv n=>.go (-1) [⟨3,n,tv0⟩] []
 |.once p=>.go 0 [] (Pk.pick t p).toList
 |.again p=>.go 0 [] (agR p (Pk.pick t p))
 |.all r=>.go 0 [] (r.map It.fl)
def rwf (r:List Fl):Prop:=(∃k ts rest,r=Fl.wd k ts :: rest)∧r.length≤8
def Pk.wf:Pk→Prop
 |.row r=>rwf r
 |_=>True
def It.wf:It→Prop
 |.once p=>p.wf
 |.again p=>p.wf
 |.all r=>rwf r
 |_=>True
def wfs (K:List It):Prop:=∀i∈K,i.wf
def lvs:List It→List Int
 |[]=>[]
 |.lv n :: K=>n :: lvs K
 |_ :: K=>lvs K
theorem lvs_app (a b:List It):lvs (a++b)=lvs a++lvs b:=by
 induction a with
 |nil=>rfl
 |cons i r ih=>cases i <;> simp [lvs,ih]
theorem lvs_fl (r:List Fl):lvs (r.map It.fl)=[]:=by
 induction r with
 |nil=>rfl
 |cons x r ih=>simp [lvs,ih]
theorem wfs_fl (r:List Fl):wfs (r.map It.fl):=by
 intro i hi
 obtain ⟨x,_,rfl⟩:=List.mem_map.1 hi
 trivial
theorem wfs_app {a b:List It}(ha:wfs a) (hb:wfs b):wfs (a++b):=fun i hi=>(List.mem_append.1 hi).elim (ha i) (hb i)
theorem wfs_nil:wfs []:=fun _ h=>by cases h
theorem wfs_cons {i:It}{K:List It}(hi:i.wf) (hK:wfs K):wfs (i :: K):=fun j hj=>(List.mem_cons.1 hj).elim (fun e=>e ▸ hi) (hK j)
def Gw.ok:Gw→Prop
 |.ref=>True
 |.ex r=>wfs r∧r.length≤10∧lvs r=[]
 |.op nd r=>wfs r∧r.length≤10∧lvs r=[]∧2≤nd∧nd≤32
theorem wordedR_ok (s:ByteArray):(wordedR s).ok:=by
 unfold wordedR
 repeat' split
 all_goals simp [Gw.ok,wfs,It.wf,Pk.wf,rwf,lvs]
theorem row_ok (t:Tv) (m:M):(M.row t m).ok:=by
 cases m <;> simp only [M.row]
 case statement=>
  split
  ·simp [Gw.ok,wfs,It.wf,Pk.wf,rwf,lvs]
  ·exact wordedR_ok _
 all_goals (repeat' split)
 all_goals simp [Gw.ok,wfs,It.wf,Pk.wf,rwf,lvs]
theorem pick_wf {t:Tv}{p:Pk}(hp:p.wf) {i:It}(h:Pk.pick t p=some i):i.wf∧lvs [i]=[]:=by
 cases p with
 |fn d=>
  simp only [Pk.pick,Option.map_eq_some_iff] at h
  obtain ⟨m,_,rfl⟩:=h
  exact ⟨trivial,rfl⟩
 |row r=>
  simp only [Pk.pick] at h
  split at h
  ·cases h;exact ⟨hp,rfl⟩
  ·cases h
 |ex m=>
  simp only [Pk.pick] at h
  split at h
  ·cases h
  ·cases h;exact ⟨trivial,rfl⟩
theorem step_ok {t:Tv}{i:It}{d:Int}{o:List Ev}{r K:List It}(h:It.step t i=.go d o r) (hi:i.wf) :
  wfs r∧r.length≤11∧o.length≤1∧((lvs (r++K)).length:Int)=(lvs (i :: K)).length+d:=by
 cases i with
 |fl x=>
  have hm:∃m,x=.mt m:=by
   cases x with
   |mt m=>exact ⟨m,rfl⟩
   |_=>simp only [It.step,Fl.step] at h;split at h <;> cases h
  obtain ⟨m,rfl⟩:=hm
  have hr:=row_ok t m
  simp only [It.step,Fl.step] at h
  cases hrow:M.row t m with
  |ref=>rw [hrow] at h;cases h
  |ex r'=>
   rw [hrow] at h hr
   cases h
   refine ⟨hr.1,by have:=hr.2.1;omega,by simp,?_⟩
   rw [lvs_app,hr.2.2]
   simp [lvs]
  |op nd r'=>
   rw [hrow] at h hr
   cases h
   refine ⟨wfs_app hr.1 (wfs_cons trivial wfs_nil),by have:=hr.2.1;simp;omega,by simp,?_⟩
   rw [lvs_app,lvs_app,hr.2.2.1]
   simp [lvs]
 |lv n=>
  cases h
  refine ⟨wfs_nil,by simp,by simp,?_⟩
  simp [lvs]
  omega
 |once p=>
  simp only [It.step] at h
  cases hp:Pk.pick t p with
  |none=>rw [hp] at h;cases h;exact ⟨wfs_nil,by simp,by simp,by simp [lvs]⟩
  |some j=>
   rw [hp] at h
   cases h
   have:=pick_wf hi hp
   refine ⟨wfs_cons this.1 wfs_nil,by simp,by simp,?_⟩
   show ((lvs ([j]++K)).length:Int)=_
   rw [lvs_app,this.2]
   simp [lvs]
 |again p=>
  simp only [It.step] at h
  cases hp:Pk.pick t p with
  |none=>rw [hp] at h;cases h;exact ⟨wfs_nil,by simp [agR],by simp,by simp [lvs,agR]⟩
  |some j=>
   rw [hp] at h
   cases h
   have:=pick_wf hi hp
   refine ⟨wfs_cons this.1 (wfs_cons hi wfs_nil),by simp [agR],by simp,?_⟩
   show ((lvs ([j]++([.again p]++K))).length:Int)=_
   rw [lvs_app,this.2]
   simp [lvs]
 |all r'=>
  cases h
  refine ⟨wfs_fl r',by have:=hi.2;simp;omega,by simp,?_⟩
  rw [lvs_app,lvs_fl]
  simp [lvs]
inductive Ro|no|yes (K:List It) (n:Int) (E:List Ev)
inductive Ru (t:Tv):Nat→List It→Int→List Ev→Ro→Prop
 |nil {n:Int} {E:List Ev}:Ru t 0 [] n E .no
 |ref {i:It} {K:List It} {n:Int} {E:List Ev}:It.step t i=.ref→Ru t 0 (i :: K) n E .no
 |tk {i:It} {K:List It} {n:Int} {E:List Ev}:It.step t i=.tk→Ru t 0 (i :: K) n E (.yes K n E)
 |go {k:Nat} {i:It} {K:List It} {n d:Int} {E o:List Ev} {r:List It} {R:Ro}:It.step t i=.go d o r→Ru t k (r++K) (n+d) (E++o) R→Ru t (k+1) (i :: K) n E R
def Soon (t:Tv) (c:Nat) (i:It):Prop:=∀K n E,∃k R,k≤c∧Ru t k (i :: K) n E R
theorem soon_fl (t:Tv) (x:Fl) (hx:∀m,x≠.mt m) (c:Nat):Soon t c (.fl x):=by
 intro K n E
 have h:It.step t (.fl x)=if x.takes t then .tk else .ref:=by
  cases x with
  |mt m=>exact absurd rfl (hx m)
  |_=>rfl
 by_cases hb:x.takes t=true
 ·rw [if_pos hb] at h;exact ⟨0,_,Nat.zero_le _,.tk h⟩
 ·rw [if_neg hb] at h;exact ⟨0,_,Nat.zero_le _,.ref h⟩
theorem soon_go {t:Tv}{i j:It}{d:Int}{o:List Ev}{r:List It}{c:Nat}(h:It.step t i=.go d o (j :: r)) (hj:Soon t c j):Soon t (c+1) i:=by
 intro K n E
 obtain ⟨k,R,hk,hR⟩:=hj (r++K) (n+d) (E++o)
 exact ⟨k+1,R,by omega,.go h hR⟩
theorem Soon.up {t:Tv}{c c':Nat}{i:It}(h:Soon t c i) (hc:c≤c'):Soon t c' i:=by
 intro K n E
 obtain ⟨k,R,hk,hR⟩:=h K n E
 exact ⟨k,R,by omega,hR⟩
theorem soon_ref {t:Tv}{i:It}(h:It.step t i=.ref) (c:Nat):Soon t c i:=fun K n E=>⟨0,_,Nat.zero_le _,.ref h⟩
theorem ne_wd {k:Int}{ts:List ByteArray}:∀m,Fl.wd k ts≠.mt m:=fun m h=>by cases h
theorem ne_nm:∀m,Fl.nm≠.mt m:=fun m h=>by cases h
theorem ne_cs:∀m,Fl.cs≠.mt m:=fun m h=>by cases h
theorem soon_w {t:Tv}{i:It}{d:Int}{o:List Ev}{x:Fl}{r:List It}(h:It.step t i=.go d o (.fl x :: r)) (hx:∀m,x≠.mt m):Soon t 1 i:=soon_go h (soon_fl t x hx 0)
theorem soon_object (t:Tv):Soon t 1 (.fl (.mt .object)):=soon_w rfl ne_nm
theorem soon_typed (t:Tv):Soon t 1 (.fl (.mt .typed)):=soon_w rfl ne_nm
theorem soon_row {t:Tv}{m:M}{c:Nat}(R:Gw) (hR:M.row t m=R) (h:R=.ref∨(∃x r,(∀m,x≠Fl.mt m)∧(R=.ex (.fl x :: r)∨∃nd,R=.op nd (.fl x :: r)))):Soon t 1 (.fl (.mt m)):=by
 have hs:It.step t (.fl (.mt m))=R.sr:=by simp only [It.step,Fl.step,hR]
 rcases h with rfl|⟨x,r,hx,rfl|⟨nd,rfl⟩⟩
 ·exact soon_ref hs 1
 ·exact soon_w hs hx
 ·exact soon_w (d:=1) (o:=[⟨1,nd,tv0⟩]) (x:=x) (r:=r++[It.lv nd]) hs hx
theorem soon_factor (t:Tv):Soon t 2 (.fl (.mt .factor)):=by
 by_cases h:facN t=28
 ·have hs:It.step t (.fl (.mt .factor))=.go 0 [] [.fl (.mt .object)]:=by simp [It.step,Fl.step,M.row,h,Gw.sr]
  exact soon_go hs (soon_object t)
 ·refine (soon_row (c:=0) _ rfl ?_).up (by omega)
  have h':(facN t == 28)=false:=by simpa using h
  simp only [M.row,h',Bool.false_eq_true,if_false]
  repeat' split
  all_goals first
   |exact .inl rfl
   |exact .inr ⟨_,_,ne_wd,.inr ⟨_,rfl⟩⟩
   |exact .inr ⟨_,_,ne_cs,.inr ⟨_,rfl⟩⟩
   | (rename_i hh;simp at hh)
theorem soon_kind (t:Tv):Soon t 1 (.fl (.mt .kind)):=by
 refine soon_row (c:=0) _ rfl ?_
 simp only [M.row]
 repeat' split
 all_goals first
  |exact .inl rfl
  |exact .inr ⟨_,_,ne_wd,.inr ⟨_,rfl⟩⟩
  |exact .inr ⟨_,_,ne_nm,.inr ⟨_,rfl⟩⟩
theorem soon_statement (t:Tv):Soon t 2 (.fl (.mt .statement)):=by
 by_cases h:(t.k == 1)=true
 ·have hs:It.step t (.fl (.mt .statement))=.go 1 [⟨1,14,tv0⟩] ([.fl (.mt .object),.once (.row [.wd 6 [⟨#[58,61]⟩],.mt .expr])]++[.lv 14]):=by simp [It.step,Fl.step,M.row,h,Gw.sr]
  exact soon_go (r:=[.once (.row [.wd 6 [⟨#[58,61]⟩],.mt .expr]),.lv 14]) hs (soon_object t)
 ·refine (soon_row (c:=0) _ rfl ?_).up (by omega)
  have h':(t.k == 1)=false:=by simpa using h
  simp only [M.row,h',Bool.false_eq_true,if_false,wordedR]
  repeat' split
  all_goals first
   |exact .inl rfl
   |exact .inr ⟨_,_,ne_wd,.inr ⟨_,rfl⟩⟩
   | (rename_i hh;simp at hh)
theorem soon_term (t:Tv):Soon t 3 (.fl (.mt .term)):=soon_go rfl (soon_factor t)
theorem soon_sum (t:Tv):Soon t 4 (.fl (.mt .sum)):=soon_go rfl (soon_term t)
theorem soon_rel (t:Tv):Soon t 5 (.fl (.mt .rel)):=soon_go rfl (soon_sum t)
theorem soon_expr (t:Tv):Soon t 6 (.fl (.mt .expr)):=soon_go rfl (soon_rel t)
theorem soon_decl (t:Tv) (m:M) (h:m=.variables∨m=.constants∨m=.procedure∨m=.params∨m=.index∨m=.selection∨m=.args):Soon t 1 (.fl (.mt m)):=by
 rcases h with rfl|rfl|rfl|rfl|rfl|rfl|rfl <;> exact soon_w rfl ne_wd
theorem dk_pick {t:Tv}{d:Dk}{m:M}(h:d.pick t=some m):m=.variables∨m=.constants∨m=.procedure∨m=.params∨m=.index∨m=.selection∨m=.args:=by
 cases d <;> simp only [Dk.pick] at h <;> repeat' (split at h)
 all_goals first|(cases h;done)|(cases h;simp)
theorem soon_block (t:Tv):Soon t 4 (.fl (.mt .block)):=by
 intro K n E
 have hs:It.step t (.fl (.mt .block))=.go 1 [⟨1,2,tv0⟩] (.again (.fn .declaration) :: .fl (.wd 2 [⟨#[98,101,103,105,110]⟩]) :: [.fl (.mt .body),.fl (.wd 2 [⟨#[101,110,100]⟩]),.lv 2]):=rfl
 cases hp:Dk.pick t .declaration with
 |none=>
  have h2:It.step t (.again (.fn .declaration))=.go 0 [] []:=by simp [It.step,Pk.pick,hp,agR]
  obtain ⟨k,R,hk,hR⟩:=soon_fl t (.wd 2 [⟨#[98,101,103,105,110]⟩]) ne_wd 0 ([.fl (.mt .body),.fl (.wd 2 [⟨#[101,110,100]⟩]),.lv 2]++K) (n+1+0) (E++[⟨1,2,tv0⟩]++[])
  exact ⟨k+1+1,R,by omega,.go hs (.go h2 hR)⟩
 |some m=>
  have h2:It.step t (.again (.fn .declaration))=.go 0 [] (.fl (.mt m) :: [.again (.fn .declaration)]):=by simp [It.step,Pk.pick,hp,agR]
  exact ((soon_go hs (soon_go h2 (soon_decl t m (dk_pick hp)))).up (by omega)) K n E
theorem soon_mt (t:Tv) (m:M):Soon t 8 (.fl (.mt m)):=by
 cases m with
 |block=>exact (soon_block t).up (by omega)
 |variables=>exact (soon_decl t _ (by simp)).up (by omega)
 |constants=>exact (soon_decl t _ (by simp)).up (by omega)
 |procedure=>exact (soon_decl t _ (by simp)).up (by omega)
 |params=>exact (soon_decl t _ (by simp)).up (by omega)
 |param=>exact (soon_go rfl (soon_typed t)).up (by omega)
 |typed=>exact (soon_typed t).up (by omega)
 |kind=>exact (soon_kind t).up (by omega)
 |member=>exact (soon_go rfl (soon_typed t)).up (by omega)
 |body=>exact (soon_go rfl (soon_statement t)).up (by omega)
 |statement=>exact (soon_statement t).up (by omega)
 |expr=>exact (soon_expr t).up (by omega)
 |rel=>exact (soon_rel t).up (by omega)
 |sum=>exact (soon_sum t).up (by omega)
 |term=>exact (soon_term t).up (by omega)
 |factor=>exact (soon_factor t).up (by omega)
 |object=>exact (soon_object t).up (by omega)
 |index=>exact (soon_decl t _ (by simp)).up (by omega)
 |selection=>exact (soon_decl t _ (by simp)).up (by omega)
 |args=>exact (soon_decl t _ (by simp)).up (by omega)
 |list=>exact (soon_go rfl (soon_expr t)).up (by omega)
theorem soon_flat (t:Tv) (x:Fl):Soon t 8 (.fl x):=by
 cases x with
 |mt m=>exact soon_mt t m
 |_=>exact soon_fl t _ (fun m h=>by cases h) 8
theorem soon_pick {t:Tv}{p:Pk}(hp:p.wf) {i:It}(h:Pk.pick t p=some i):Soon t 9 i:=by
 cases p with
 |fn d=>
  simp only [Pk.pick,Option.map_eq_some_iff] at h
  obtain ⟨m,_,rfl⟩:=h
  exact (soon_mt t m).up (by omega)
 |row r=>
  simp only [Pk.pick] at h
  split at h
  ·cases h
   obtain ⟨⟨k,ts,rest,rfl⟩,_⟩:=hp
   exact (soon_go (r:=rest.map It.fl) rfl (soon_fl t (.wd k ts) ne_wd 0)).up (by omega)
  ·cases h
 |ex m=>
  simp only [Pk.pick] at h
  split at h
  ·cases h
  ·cases h;exact (soon_mt t m).up (by omega)
theorem ru_ex (t:Tv):∀(K:List It),wfs K→∀n E,∃k R,k≤K.length+20∧Ru t k K n E R
 |[],_,n,E=>⟨0,_,Nat.zero_le _,.nil⟩
 |i :: K,hw,n,E=>by
  have hi:i.wf:=hw i (List.mem_cons_self ..)
  have hK:wfs K:=fun j hj=>hw j (List.mem_cons_of_mem _ hj)
  have pop:∀d o,It.step t i=.go d o []→∃k R,k≤(i :: K).length+20∧Ru t k (i :: K) n E R:=by
   intro d o h
   obtain ⟨k,R,hk,hR⟩:=ru_ex t K hK (n+d) (E++o)
   exact ⟨k+1,R,by simp;omega,.go h hR⟩
  have soon:∀c,c≤20→Soon t c i→∃k R,k≤(i :: K).length+20∧Ru t k (i :: K) n E R:=by
   intro c hc h
   obtain ⟨k,R,hk,hR⟩:=h K n E
   exact ⟨k,R,by omega,hR⟩
  cases i with
  |fl x=>exact soon 8 (by omega) (soon_flat t x)
  |lv nd=>exact pop _ _ rfl
  |once p=>
   cases hp:Pk.pick t p with
   |none=>exact pop 0 [] (by simp [It.step,hp])
   |some j=>exact soon 10 (by omega) (soon_go (r:=[]) (by simp [It.step,hp];exact ⟨rfl,rfl⟩) (soon_pick hi hp))
  |again p=>
   cases hp:Pk.pick t p with
   |none=>exact pop 0 [] (by simp [It.step,hp,agR])
   |some j=>exact soon 10 (by omega) (soon_go (r:=[.again p]) (by simp [It.step,hp,agR];exact ⟨rfl,rfl⟩) (soon_pick hi hp))
  |all r=>
   obtain ⟨⟨k,ts,rest,rfl⟩,_⟩:=hi
   exact soon 1 (by omega) (soon_go (r:=rest.map It.fl) rfl (soon_fl t (.wd k ts) ne_wd 0))
inductive Pst|live (K:List It) (n:Int)|stuck (e n:Int)|shut
def beg (K:List It) (n:Int):List It:=if n == 0 then progR++.lv 1 :: K else K
def begN (n:Int):Int:=if n == 0 then 1 else n
def begE (n:Int):List Ev:=if n == 0 then [⟨1,1,tv0⟩] else []
inductive Putr (t:Tv):Pst→List Ev→Int→Pst→Prop
 |shut:Putr t .shut [] 4 .shut
 |stuck {e n:Int}:Putr t (.stuck e n) [] e (.stuck e n)
 |note {K:List It} {n:Int}:(t.k == 7 || t.k == 8)=true→Putr t (.live K n) (begE n++[⟨4,0,t⟩]) 0 (.live (beg K n) (begN n))
 |no {K:List It} {n:Int} {k:Nat}:(t.k == 7 || t.k == 8)=false→Ru t k (beg K n) (begN n) (begE n) .no→k≤(beg K n).length+20→Putr t (.live K n) [] 120 (.stuck 120 n)
 |deep {K L:List It} {n m:Int} {E:List Ev} {k:Nat}:(t.k == 7 || t.k == 8)=false→Ru t k (beg K n) (begN n) (begE n) (.yes L m E)→k≤(beg K n).length+20→1000<m→Putr t (.live K n) [] 122 (.stuck 122 n)
 |yes {K L:List It} {n m:Int} {E:List Ev} {k:Nat}:(t.k == 7 || t.k == 8)=false→Ru t k (beg K n) (begN n) (begE n) (.yes L m E)→k≤(beg K n).length+20→m≤1000→Putr t (.live K n) (E++[⟨2,0,t⟩]) 0 (.live L m)
structure Lz (K:List It) (n:Int):Prop where
 wf:wfs K
 lv:((lvs K).length:Int)=n
 sn:(lvs K).length≤5000000
 sk:K.length≤500000
def Pst.ok:Pst→Prop
 |.live K n=>Lz K n
 |.stuck e n=>e≠0
 |.shut=>True
inductive Clor:Pst→List Ev→Int→Prop
 |shut:Clor .shut [] 4
 |stuck {e n:Int}:Clor (.stuck e n) [] e
 |all {K:List It} {n:Int}:K.length=1→Clor (.live K n) [⟨3,1,tv0⟩] 0
 |open {K:List It} {n:Int}:K.length≠1→Clor (.live K n) [] 121
def Fl.ht:Fl→Nat
 |.mt .typed=>5
 |.mt .list=>3
 |_=>1
def rh:List Fl→Nat
 |[]=>0
 |x :: r=>max (x.ht+r.length) (rh r)
def Pk.ht:Pk→Nat
 |.row r=>rh r
 |.fn _=>1
 |.ex m=>(Fl.mt m).ht
def It.ht:It→Nat
 |.fl x=>x.ht
 |.lv _=>0
 |.once p=>max 1 p.ht
 |.again p=>1+max 1 p.ht
 |.all r=>max 1 (rh r)
def cnt:List It→Nat
 |[]=>0
 |.lv _ :: _=>0
 |_ :: K=>1+cnt K
def fb:List It→Prop
 |[]=>True
 |.lv _ :: K=>fb K
 |i :: K=>i.ht+cnt K≤15∧fb K
theorem Fl.ht_pos (x:Fl):1≤x.ht:=by
 cases x with
 |mt m=>cases m <;> decide
 |_=>exact Nat.le_refl _
theorem It.ht_pos (i:It) (h:∀n,i≠.lv n):1≤i.ht:=by
 cases i with
 |fl x=>exact x.ht_pos
 |lv n=>exact absurd rfl (h n)
 |once p=>simp only [It.ht];omega
 |again p=>simp only [It.ht];omega
 |all r=>simp only [It.ht];omega
theorem cnt_cons {i:It}(h:∀n,i≠.lv n) (K:List It):cnt (i :: K)=1+cnt K:=by
 cases i with
 |lv n=>exact absurd rfl (h n)
 |_=>rfl
theorem fb_cons {i:It}(h:∀n,i≠.lv n) (K:List It):fb (i :: K)↔i.ht+cnt K≤15∧fb K:=by
 cases i with
 |lv n=>exact absurd rfl (h n)
 |_=>exact Iff.rfl
theorem fb_cnt:∀{K:List It},fb K→cnt K≤15
 |[],_=>Nat.zero_le _
 |i :: K,h=>by
  by_cases hl:∃n,i=.lv n
  ·obtain ⟨n,rfl⟩:=hl;exact Nat.zero_le _
  ·have hn:∀n,i≠.lv n:=fun n e=>hl ⟨n,e⟩
   have h1:=((fb_cons hn K).1 h).1
   have:=i.ht_pos hn
   rw [cnt_cons hn]
   omega
theorem fb_len:∀{K:List It},fb K→K.length≤16*(lvs K).length+cnt K
 |[],_=>Nat.zero_le _
 |i :: K,h=>by
  by_cases hl:∃n,i=.lv n
  ·obtain ⟨n,rfl⟩:=hl
   have h':fb K:=h
   have:=fb_len h'
   have:=fb_cnt h'
   simp [lvs,cnt]
   omega
  ·have hn:∀n,i≠.lv n:=fun n e=>hl ⟨n,e⟩
   have:=fb_len ((fb_cons hn K).1 h).2
   have e:lvs (i :: K)=lvs K:=by
    cases i with
    |lv n=>exact absurd rfl (hn n)
    |_=>rfl
   rw [cnt_cons hn,e]
   simp
   omega
theorem fb_row (r:List Fl) (K:List It) (h:rh r+cnt K≤15) (hK:fb K):fb (r.map It.fl++K)∧cnt (r.map It.fl++K)=r.length+cnt K:=by
 induction r with
 |nil=>exact ⟨hK,by simp⟩
 |cons x r ih=>
  simp only [rh] at h
  obtain ⟨h1,h2⟩:=ih (by omega)
  refine ⟨(fb_cons (fun n e=>by cases e) _).2 ⟨?_,h1⟩,?_⟩
  ·show x.ht+cnt (r.map It.fl++K)≤15
   rw [h2];omega
  ·show cnt (.fl x :: (r.map It.fl++K))=_
   rw [cnt_cons (fun n e=>by cases e),h2,List.length_cons];omega
theorem pick_ht {t:Tv}{p:Pk}{i:It}(h:Pk.pick t p=some i):i.ht≤max 1 p.ht∧∀n,i≠.lv n:=by
 cases p with
 |fn d=>
  simp only [Pk.pick,Option.map_eq_some_iff] at h
  obtain ⟨m,hm,rfl⟩:=h
  have:=dk_pick hm
  refine ⟨?_,fun n e=>by cases e⟩
  rcases this with rfl|rfl|rfl|rfl|rfl|rfl|rfl <;> exact Nat.le_refl 1
 |row r=>
  simp only [Pk.pick] at h
  split at h
  ·cases h;exact ⟨Nat.le_refl _,fun n e=>by cases e⟩
  ·cases h
 |ex m=>
  simp only [Pk.pick] at h
  split at h
  ·cases h
  ·cases h;exact ⟨by show (Fl.mt m).ht≤max 1 (Fl.mt m).ht;omega,fun n e=>by cases e⟩
def Gw.fb (m:M):Gw→Prop
 |.ref=>True
 |.ex r=>∀K,(Fl.mt m).ht+cnt K≤15→Go.Proofs.YtpdlohfdjiaegaaGreatDoor.fb K→Go.Proofs.YtpdlohfdjiaegaaGreatDoor.fb (r++K)
 |.op nd r=>∀K,Go.Proofs.YtpdlohfdjiaegaaGreatDoor.fb K→Go.Proofs.YtpdlohfdjiaegaaGreatDoor.fb (r++.lv nd :: K)
theorem row_fb (t:Tv) (m:M):(M.row t m).fb m:=by
 cases m <;> simp only [M.row,wordedR] <;> (repeat' split) <;> simp [Gw.fb,fb,cnt,It.ht,Fl.ht,Pk.ht,rh]
 all_goals (intro K h1 h2;simp only [h2,and_true];omega)
theorem step_fb {t:Tv}{i:It}{d:Int}{o:List Ev}{r K:List It}(h:It.step t i=.go d o r) (hf:fb (i :: K)):fb (r++K):=by
 cases i with
 |fl x=>
  obtain ⟨h1,h2⟩:=(fb_cons (fun n e=>by cases e) K).1 hf
  have hm:∃m,x=.mt m:=by
   cases x with
   |mt m=>exact ⟨m,rfl⟩
   |_=>simp only [It.step,Fl.step] at h;split at h <;> cases h
  obtain ⟨m,rfl⟩:=hm
  have hr:=row_fb t m
  simp only [It.step,Fl.step] at h
  cases hrow:M.row t m with
  |ref=>rw [hrow] at h;cases h
  |ex r'=>rw [hrow] at h hr;cases h;exact hr K h1 h2
  |op nd r'=>rw [hrow] at h hr;cases h;rw [List.append_assoc];exact hr K h2
 |lv n=>cases h;exact hf
 |once p=>
  obtain ⟨h1,h2⟩:=(fb_cons (fun n e=>by cases e) K).1 hf
  simp only [It.step] at h
  cases hp:Pk.pick t p with
  |none=>rw [hp] at h;cases h;exact h2
  |some j=>
   rw [hp] at h
   cases h
   obtain ⟨a,b⟩:=pick_ht hp
   exact (fb_cons b K).2 ⟨by simp only [It.ht] at h1;omega,h2⟩
 |again p=>
  have hn:∀n,It.again p≠.lv n:=fun n e=>by cases e
  obtain ⟨h1,h2⟩:=(fb_cons hn K).1 hf
  simp only [It.step] at h
  cases hp:Pk.pick t p with
  |none=>rw [hp] at h;cases h;exact h2
  |some j=>
   rw [hp] at h
   cases h
   obtain ⟨a,b⟩:=pick_ht hp
   refine (fb_cons b _).2 ⟨?_,hf⟩
   show j.ht+cnt (.again p :: K)≤15
   rw [cnt_cons hn]
   simp only [It.ht] at h1
   omega
 |all r'=>
  obtain ⟨h1,h2⟩:=(fb_cons (fun n e=>by cases e) K).1 hf
  cases h
  exact (fb_row r' K (by simp only [It.ht] at h1;omega) h2).1
def play:List Int→List Ev→Option (List Int)
 |s,[]=>some s
 |s,e :: r=>if e.k=1 then play (e.n :: s) r else if e.k=3 then (match s with|n :: s'=>if n=e.n then play s' r else none|[]=>none) else play s r
theorem play_app:∀(a b:List Ev) (s s':List Int),play s a=some s'→play s (a++b)=play s' b
 |[],b,s,s',h=>by cases h;rfl
 |e :: r,b,s,s',h=>by
  simp only [play,List.cons_append] at h ⊢
  split
  ·rename_i h1;rw [if_pos h1] at h;exact play_app r b _ _ h
  ·rename_i h1
   rw [if_neg h1] at h
   split
   ·rename_i h2
    rw [if_pos h2] at h
    cases s with
    |nil=>cases h
    |cons n s=>
     simp only at h ⊢
     split
     ·rename_i h3;rw [if_pos h3] at h;exact play_app r b _ _ h
     ·rename_i h3;rw [if_neg h3] at h;cases h
   ·rename_i h2;rw [if_neg h2] at h;exact play_app r b _ _ h
theorem step_play {t:Tv}{i:It}{d:Int}{o:List Ev}{r K:List It}(h:It.step t i=.go d o r) (hi:i.wf):play (lvs (i :: K)) o=some (lvs (r++K)):=by
 have hk:=step_ok (K:=K) h hi
 cases i with
 |fl x=>
  have hm:∃m,x=.mt m:=by
   cases x with
   |mt m=>exact ⟨m,rfl⟩
   |_=>simp only [It.step,Fl.step] at h;split at h <;> cases h
  obtain ⟨m,rfl⟩:=hm
  have hr:=row_ok t m
  simp only [It.step,Fl.step] at h
  cases hrow:M.row t m with
  |ref=>rw [hrow] at h;cases h
  |ex r'=>rw [hrow] at h hr;cases h;rw [lvs_app,hr.2.2];rfl
  |op nd r'=>rw [hrow] at h hr;cases h;rw [lvs_app,lvs_app,hr.2.2.1];rfl
 |lv n=>cases h;simp [play,lvs]
 |once p=>
  simp only [It.step] at h
  cases hp:Pk.pick t p with
  |none=>rw [hp] at h;cases h;rfl
  |some j=>rw [hp] at h;cases h;show some (lvs K)=some (lvs ([j]++K));rw [lvs_app,(pick_wf hi hp).2];rfl
 |again p=>
  simp only [It.step] at h
  cases hp:Pk.pick t p with
  |none=>rw [hp] at h;cases h;rfl
  |some j=>rw [hp] at h;cases h;show some (lvs K)=some (lvs ([j]++([.again p]++K)));rw [lvs_app,(pick_wf hi hp).2];rfl
 |all r'=>cases h;rw [lvs_app,lvs_fl];rfl
structure Ok (K:List It) (n:Int):Prop where
 wf:wfs K
 fb:fb K
 lv:((lvs K).length:Int)=n
 le:n≤1000
theorem Ok.lz {K:List It}{n:Int}(h:Ok K n):Lz K n:=by
 have h1:=h.lv
 have h2:=h.le
 have h3:=fb_len h.fb
 have h4:=fb_cnt h.fb
 exact ⟨h.wf,h.lv,by omega,by omega⟩
theorem ru_keep {t:Tv}{k:Nat}{K:List It}{n:Int}{E:List Ev}{R:Ro}(h:Ru t k K n E R):∀{L:List It}{m:Int}{F:List Ev},R=.yes L m F→wfs K→fb K→((lvs K).length:Int)=n →
  wfs L∧fb L∧((lvs L).length:Int)=m∧∃o,F=E++o∧play (lvs K) o=some (lvs L)∧(∀e∈o,e.d=tv0∧(e.k=1∨e.k=3)∧(e.k=1→e.n≠1))∧o.length≤k:=by
 induction h with
 |nil=>intro L m F h;cases h
 |ref _=>intro L m F h;cases h
 |tk hs=>
  rename_i i K n E
  intro L m F h hw hf hn
  cases h
  have hl:∀a,i≠.lv a:=fun a e=>by subst e;cases hs
  have e:lvs (i :: K)=lvs K:=by
   cases i with
   |lv a=>exact absurd rfl (hl a)
   |_=>rfl
  rw [e] at hn
  exact ⟨fun j hj=>hw j (List.mem_cons_of_mem _ hj),((fb_cons hl K).1 hf).2,hn,[],by simp,by rw [e];rfl,fun x hx=>by simp at hx,Nat.zero_le _⟩
 |go hs _ ih=>
  rename_i k i K n d E o r R _
  intro L m F h hw hf hn
  have hi:=hw i (List.mem_cons_self ..)
  obtain ⟨a1,a2,a3,a4⟩:=step_ok (K:=K) hs hi
  obtain ⟨b1,b2,b3,o2,b4,b5,b6,b7⟩:=ih h (wfs_app a1 (fun j hj=>hw j (List.mem_cons_of_mem _ hj))) (step_fb hs hf) (by omega)
  refine ⟨b1,b2,b3,o++o2,by rw [b4,List.append_assoc],(play_app o o2 _ _ (step_play hs hi)).trans b5,?_,by simp;omega⟩
  intro x hx
  rcases List.mem_append.1 hx with hx|hx
  ·cases i with
   |fl y=>
    have hm:∃m,y=.mt m:=by
     cases y with
     |mt m=>exact ⟨m,rfl⟩
     |_=>simp only [It.step,Fl.step] at hs;split at hs <;> cases hs
    obtain ⟨mm,rfl⟩:=hm
    have hr:=row_ok t mm
    simp only [It.step,Fl.step] at hs
    cases hrow:M.row t mm with
    |ref=>rw [hrow] at hs;cases hs
    |ex r'=>rw [hrow] at hs;cases hs;simp at hx
    |op nd r'=>rw [hrow] at hs hr;cases hs;simp at hx;subst hx;exact ⟨rfl,.inl rfl,fun _=>by have:=hr.2.2.2.1;show nd≠1;omega⟩
   |lv a=>cases hs;simp at hx;subst hx;exact ⟨rfl,.inr rfl,fun e=>by cases e⟩
   |once p=>cases hs;simp at hx
   |again p=>cases hs;simp at hx
   |all r'=>cases hs;simp at hx
  ·exact b6 x hx
theorem ok_beg {K:List It}{n:Int}(h:Ok K n) (h0:n=0→K=[]):wfs (beg K n)∧fb (beg K n)∧((lvs (beg K n)).length:Int)=begN n∧play (lvs K) (begE n)=some (lvs (beg K n))∧(beg K n).length≤20000:=by
 have hz:=h.lz
 have h3:=fb_len h.fb
 have h4:=fb_cnt h.fb
 have h1:=h.lv
 have h2:=h.le
 by_cases hn:n=0
 ·obtain rfl:=h0 hn
  subst hn
  refine ⟨?_,?_,rfl,rfl,by simp [beg,progR]⟩
  ·intro i hi
   simp [beg,progR] at hi
   rcases hi with rfl|rfl|rfl|rfl|rfl|rfl <;> trivial
  ·simp [beg,progR,fb,It.ht,Fl.ht,cnt]
 ·have hb:(n == 0)=false:=by simpa using hn
  simp only [beg,begN,begE,hb,Bool.false_eq_true,if_false]
  exact ⟨h.wf,h.fb,h.lv,rfl,by omega⟩
end Go.Proofs.YtpdlohfdjiaegaaGreatDoor
