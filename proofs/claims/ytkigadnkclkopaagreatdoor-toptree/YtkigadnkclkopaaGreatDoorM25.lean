import Derived.Test.YtkigadnkclkopaaGreatDoorM01
set_option linter.unusedVariables false
set_option linter.unusedSimpArgs false
namespace Go.Proofs.YtkigadnkclkopaaGreatDoor
open Go.RowKit
inductive M|block|variables|constants|procedure|params|param|typed|kind|member|body|statement|expr|rel|sum|term|factor|object|index|selection|args|list
deriving DecidableEq
inductive Dk|declaration|bracket|detail
deriving DecidableEq
inductive Fl|wd (k:Int) (ts:List ByteArray)|nm|cs|mt (m:M)
inductive Pk|fn (d:Dk)|row (r:List Fl)|ex (m:M)
inductive It|fl (x:Fl)|lv (n:Int)|once (p:Pk)|again (p:Pk)|all (r:List Fl)
theorem btl_inj {a b:ByteArray}(h:a.toList=b.toList):a=b:=by
 rw [ByteArray.toList_eq,ByteArray.toList_eq] at h
 have:=Array.toList_inj.1 h
 cases a;cases b;simp_all
theorem btl_eq (a b:ByteArray):(a.toList == b.toList)=decide (a=b):=by
 by_cases e:a=b
 ·subst e;simp
 ·have:¬a.toList=b.toList:=fun h=>e (btl_inj h)
  simp [e,this]
def has (l:List ByteArray) (s:ByteArray):Bool:=l.any (fun x=>decide (s=x))
def Tv.is (t:Tv) (l:List UInt8):Bool:=t.t.toList == l
def Fl.takes (t:Tv):Fl→Bool
 |.wd k ts=>t.k == k && has ts t.t
 |.nm=>t.k == 1
 |.cs=>t.k == 3 || t.k == 4 || t.k == 5
 |.mt _=>false
def facN (t:Tv):Int:=
 if t.k == 6 && t.is [45] then 25 else if t.k == 2 && t.is [110,111,116] then 26 else if t.k == 6 && t.is [40] then 27
 else if t.k == 3 || t.k == 4 || t.k == 5 then 32 else if t.k == 1 then 28 else 0
def Dk.pick (t:Tv):Dk→Option M
 |.declaration=>if t.is [118,97,114] then some .variables else if t.is [99,111,110,115,116] then some .constants else if t.is [112,114,111,99] then some .procedure else none
 |.bracket=>if t.is [40] then some .params else none
 |.detail=>if t.is [91] then some .index else if t.is [46] then some .selection else if t.is [40] then some .args else none
def Pk.pick (t:Tv):Pk→Option It
 |.fn d=>(d.pick t).map (fun m=>.fl (.mt m))
 |.row r=>if (r.head?.elim false (fun x=>x.takes t)) then some (.all r) else none
 |.ex m=>if facN t == 0 then none else some (.fl (.mt m))
def agR (p:Pk):Option It→List It
 |none=>[]
 |some i=>[i,.again p]
inductive Gw|ref|ex (r:List It)|op (n:Int) (r:List It)
def wordedR (s:ByteArray):Gw:=
 if s.toList == [115,107,105,112] then .op 13 [.fl (.wd 2 [s])]
 else if s.toList == [105,102] then .op 15 [.fl (.wd 2 [s]),.fl (.mt .expr),.fl (.wd 2 [⟨#[116,104,101,110]⟩]),.fl (.mt .body),.again (.row [.wd 2 [⟨#[101,108,105,102]⟩],.mt .expr,.wd 2 [⟨#[116,104,101,110]⟩],.mt .body]),.once (.row [.wd 2 [⟨#[101,108,115,101]⟩],.mt .body]),.fl (.wd 2 [⟨#[101,110,100]⟩])]
 else if s.toList == [119,104,105,108,101] then .op 16 [.fl (.wd 2 [s]),.fl (.mt .expr),.fl (.wd 2 [⟨#[100,111]⟩]),.fl (.mt .body),.fl (.wd 2 [⟨#[101,110,100]⟩])]
 else if s.toList == [102,111,114] then .op 17 [.fl (.wd 2 [s]),.fl (.nm),.fl (.wd 6 [⟨#[58,61]⟩]),.fl (.mt .expr),.fl (.wd 2 [⟨#[116,111]⟩]),.fl (.mt .expr),.fl (.wd 2 [⟨#[100,111]⟩]),.fl (.mt .body),.fl (.wd 2 [⟨#[101,110,100]⟩])]
 else if s.toList == [114,101,112,101,97,116] then .op 18 [.fl (.wd 2 [s]),.fl (.mt .body),.fl (.wd 2 [⟨#[117,110,116,105,108]⟩]),.fl (.mt .expr)]
 else if s.toList == [114,101,116,117,114,110] then .op 19 [.fl (.wd 2 [s]),.once (.ex .expr)]
 else if s.toList == [98,101,103,105,110] then .op 20 [.fl (.wd 2 [s]),.fl (.mt .body),.fl (.wd 2 [⟨#[101,110,100]⟩])]
 else .ref
def M.row (t:Tv):M→Gw
 |.block=>.op 2 [.again (.fn .declaration),.fl (.wd 2 [⟨#[98,101,103,105,110]⟩]),.fl (.mt .body),.fl (.wd 2 [⟨#[101,110,100]⟩])]
 |.variables=>.op 3 [.fl (.wd 2 [⟨#[118,97,114]⟩]),.fl (.mt .typed),.fl (.wd 6 [⟨#[59]⟩])]
 |.constants=>.op 4 [.fl (.wd 2 [⟨#[99,111,110,115,116]⟩]),.fl (.nm),.fl (.wd 6 [⟨#[61]⟩]),.fl (.mt .expr),.fl (.wd 6 [⟨#[59]⟩])]
 |.params=>.op 6 [.fl (.wd 6 [⟨#[40]⟩]),.fl (.mt .param),.again (.row [.wd 6 [⟨#[59]⟩],.mt .param]),.fl (.wd 6 [⟨#[41]⟩])]
 |.param=>.op 7 [.fl (.mt .typed)]
 |.typed=>.ex [.fl (.nm),.again (.row [.wd 6 [⟨#[44]⟩],.nm]),.fl (.wd 6 [⟨#[58]⟩]),.fl (.mt .kind)]
 |.member=>.op 11 [.fl (.mt .typed)]
 |.body=>.op 12 [.fl (.mt .statement),.again (.row [.wd 6 [⟨#[59]⟩],.mt .statement])]
 |.expr=>.op 21 [.fl (.mt .rel),.again (.row [.wd 2 [⟨#[97,110,100]⟩,⟨#[111,114]⟩],.mt .rel])]
 |.rel=>.op 22 [.fl (.mt .sum),.once (.row [.wd 6 [⟨#[61]⟩,⟨#[35]⟩,⟨#[60]⟩,⟨#[60,61]⟩,⟨#[62]⟩,⟨#[62,61]⟩],.mt .sum])]
 |.sum=>.op 23 [.fl (.mt .term),.again (.row [.wd 6 [⟨#[43]⟩,⟨#[45]⟩],.mt .term])]
 |.term=>.op 24 [.fl (.mt .factor),.again (.row [.wd 6 [⟨#[42]⟩,⟨#[47]⟩,⟨#[37]⟩],.mt .factor])]
 |.object=>.op 28 [.fl (.nm),.again (.fn .detail)]
 |.index=>.op 29 [.fl (.wd 6 [⟨#[91]⟩]),.fl (.mt .list),.fl (.wd 6 [⟨#[93]⟩])]
 |.selection=>.op 30 [.fl (.wd 6 [⟨#[46]⟩]),.fl (.nm)]
 |.args=>.op 31 [.fl (.wd 6 [⟨#[40]⟩]),.once (.ex .list),.fl (.wd 6 [⟨#[41]⟩])]
 |.list=>.ex [.fl (.mt .expr),.again (.row [.wd 6 [⟨#[44]⟩],.mt .expr])]
 |.procedure=>.op 5 [.fl (.wd 2 [⟨#[112,114,111,99]⟩]),.fl (.nm),.once (.fn .bracket),.once (.row [.wd 6 [⟨#[58]⟩],.mt .kind]),.fl (.wd 6 [⟨#[59]⟩]),.fl (.mt .block),.fl (.wd 6 [⟨#[59]⟩])]
 |.kind=>if t.k == 1 then .op 8 [.fl .nm] else if t.is [97,114,114,97,121] then .op 9 [.fl (.wd 2 [⟨#[97,114,114,97,121]⟩]),.fl (.wd 6 [⟨#[91]⟩]),.fl (.mt .expr),.fl (.wd 6 [⟨#[46,46]⟩]),.fl (.mt .expr),.fl (.wd 6 [⟨#[93]⟩]),.fl (.wd 2 [⟨#[111,102]⟩]),.fl (.mt .kind)] else if t.is [114,101,99,111,114,100] then .op 10 [.fl (.wd 2 [⟨#[114,101,99,111,114,100]⟩]),.fl (.mt .member),.again (.row [.wd 6 [⟨#[59]⟩],.mt .member]),.fl (.wd 2 [⟨#[101,110,100]⟩])] else .ref
 |.statement=>if t.k == 1 then .op 14 [.fl (.mt .object),.once (.row [.wd 6 [⟨#[58,61]⟩],.mt .expr])] else wordedR t.t
 |.factor=>if facN t == 25 then .op 25 [.fl (.wd 6 [⟨#[45]⟩]),.fl (.mt .factor)] else if facN t == 26 then .op 26 [.fl (.wd 2 [⟨#[110,111,116]⟩]),.fl (.mt .factor)] else if facN t == 27 then .op 27 [.fl (.wd 6 [⟨#[40]⟩]),.fl (.mt .expr),.fl (.wd 6 [⟨#[41]⟩])] else if facN t == 32 then .op 32 [.fl (.cs)] else if facN t == 28 then .ex [.fl (.mt .object)] else .ref
def progR:List It:=[.fl (.wd 2 [⟨#[112,114,111,103,114,97,109]⟩]),.fl (.nm),.fl (.wd 6 [⟨#[59]⟩]),.fl (.mt .block),.fl (.wd 6 [⟨#[46]⟩])]
inductive Sr|tk|ref|go (d:Int) (o:List Ev) (r:List It)
def Gw.sr:Gw→Sr
 |.ref=>.ref
 |.ex r=>.go 0 [] r
 |.op nd r=>.go 1 [⟨1,nd,tv0⟩] (r++[.lv nd])
def Fl.step (t:Tv):Fl→Sr
 |.mt m=>(M.row t m).sr
 |x=>if x.takes t then .tk else .ref
def It.step (t:Tv):It→Sr
 |.fl x=>x.step t
 |.lv n=>.go (-1) [⟨3,n,tv0⟩] []
 |.once p=>.go 0 [] (Pk.pick t p).toList
 |.again p=>.go 0 [] (agR p (Pk.pick t p))
 |.all r=>.go 0 [] (r.map It.fl)
def rwf (r:List Fl):Prop:=(∃k ts rest,r=Fl.wd k ts :: rest)∧r.length≤8
def Pk.wf:Pk→Prop
 |.row r=>rwf r
 |_=>True
def It.wf:It→Prop
 |.once p=>p.wf
 |.again p=>p.wf
 |.all r=>rwf r
 |_=>True
def wfs (K:List It):Prop:=∀i∈K,i.wf
def lvs:List It→List Int
 |[]=>[]
 |.lv n :: K=>n :: lvs K
 |_ :: K=>lvs K
theorem lvs_app (a b:List It):lvs (a++b)=lvs a++lvs b:=by
 induction a with
 |nil=>rfl
 |cons i r ih=>cases i <;> simp [lvs,ih]
theorem lvs_fl (r:List Fl):lvs (r.map It.fl)=[]:=by
 induction r with
 |nil=>rfl
 |cons x r ih=>simp [lvs,ih]
theorem wfs_fl (r:List Fl):wfs (r.map It.fl):=by
 intro i hi
 obtain ⟨x,_,rfl⟩:=List.mem_map.1 hi
 trivial
theorem wfs_app {a b:List It}(ha:wfs a) (hb:wfs b):wfs (a++b):=fun i hi=>(List.mem_append.1 hi).elim (ha i) (hb i)
theorem wfs_nil:wfs []:=fun _ h=>by cases h
theorem wfs_cons {i:It}{K:List It}(hi:i.wf) (hK:wfs K):wfs (i :: K):=fun j hj=>(List.mem_cons.1 hj).elim (fun e=>e ▸ hi) (hK j)
def Gw.ok:Gw→Prop
 |.ref=>True
 |.ex r=>wfs r∧r.length≤10∧lvs r=[]
 |.op nd r=>wfs r∧r.length≤10∧lvs r=[]∧2≤nd∧nd≤32
theorem wordedR_ok (s:ByteArray):(wordedR s).ok:=by
 unfold wordedR
 repeat' split
 all_goals simp [Gw.ok,wfs,It.wf,Pk.wf,rwf,lvs]
theorem row_ok (t:Tv) (m:M):(M.row t m).ok:=by
 cases m <;> simp only [M.row]
 case statement=>
  split
  ·simp [Gw.ok,wfs,It.wf,Pk.wf,rwf,lvs]
  ·exact wordedR_ok _
 all_goals (repeat' split)
 all_goals simp [Gw.ok,wfs,It.wf,Pk.wf,rwf,lvs]
theorem pick_wf {t:Tv}{p:Pk}(hp:p.wf) {i:It}(h:Pk.pick t p=some i):i.wf∧lvs [i]=[]:=by
 cases p with
 |fn d=>
  simp only [Pk.pick,Option.map_eq_some_iff] at h
  obtain ⟨m,_,rfl⟩:=h
  exact ⟨trivial,rfl⟩
 |row r=>
  simp only [Pk.pick] at h
  split at h
  ·cases h;exact ⟨hp,rfl⟩
  ·cases h
 |ex m=>
  simp only [Pk.pick] at h
  split at h
  ·cases h
  ·cases h;exact ⟨trivial,rfl⟩
theorem step_ok {t:Tv}{i:It}{d:Int}{o:List Ev}{r K:List It}(h:It.step t i=.go d o r) (hi:i.wf) :
  wfs r∧r.length≤11∧o.length≤1∧((lvs (r++K)).length:Int)=(lvs (i :: K)).length+d:=by
 cases i with
 |fl x=>
  have hm:∃m,x=.mt m:=by
   cases x with
   |mt m=>exact ⟨m,rfl⟩
   |_=>simp only [It.step,Fl.step] at h;split at h <;> cases h
  obtain ⟨m,rfl⟩:=hm
  have hr:=row_ok t m
  simp only [It.step,Fl.step] at h
  cases hrow:M.row t m with
  |ref=>rw [hrow] at h;cases h
  |ex r'=>
   rw [hrow] at h hr
   cases h
   refine ⟨hr.1,by have:=hr.2.1;omega,by simp,?_⟩
   rw [lvs_app,hr.2.2]
   simp [lvs]
  |op nd r'=>
   rw [hrow] at h hr
   cases h
   refine ⟨wfs_app hr.1 (wfs_cons trivial wfs_nil),by have:=hr.2.1;simp;omega,by simp,?_⟩
   rw [lvs_app,lvs_app,hr.2.2.1]
   simp [lvs]
 |lv n=>
  cases h
  refine ⟨wfs_nil,by simp,by simp,?_⟩
  simp [lvs]
  omega
 |once p=>
  simp only [It.step] at h
  cases hp:Pk.pick t p with
  |none=>rw [hp] at h;cases h;exact ⟨wfs_nil,by simp,by simp,by simp [lvs]⟩
  |some j=>
   rw [hp] at h
   cases h
   have:=pick_wf hi hp
   refine ⟨wfs_cons this.1 wfs_nil,by simp,by simp,?_⟩
   show ((lvs ([j]++K)).length:Int)=_
   rw [lvs_app,this.2]
   simp [lvs]
 |again p=>
  simp only [It.step] at h
  cases hp:Pk.pick t p with
  |none=>rw [hp] at h;cases h;exact ⟨wfs_nil,by simp [agR],by simp,by simp [lvs,agR]⟩
  |some j=>
   rw [hp] at h
   cases h
   have:=pick_wf hi hp
   refine ⟨wfs_cons this.1 (wfs_cons hi wfs_nil),by simp [agR],by simp,?_⟩
   show ((lvs ([j]++([.again p]++K))).length:Int)=_
   rw [lvs_app,this.2]
   simp [lvs]
 |all r'=>
  cases h
  refine ⟨wfs_fl r',by have:=hi.2;simp;omega,by simp,?_⟩
  rw [lvs_app,lvs_fl]
  simp [lvs]
inductive Ro|no|yes (K:List It) (n:Int) (E:List Ev)
inductive Ru (t:Tv):Nat→List It→Int→List Ev→Ro→Prop
 |nil {n:Int} {E:List Ev}:Ru t 0 [] n E .no
 |ref {i:It} {K:List It} {n:Int} {E:List Ev}:It.step t i=.ref→Ru t 0 (i :: K) n E .no
 |tk {i:It} {K:List It} {n:Int} {E:List Ev}:It.step t i=.tk→Ru t 0 (i :: K) n E (.yes K n E)
 |go {k:Nat} {i:It} {K:List It} {n d:Int} {E o:List Ev} {r:List It} {R:Ro}:It.step t i=.go d o r→Ru t k (r++K) (n+d) (E++o) R→Ru t (k+1) (i :: K) n E R
def Soon (t:Tv) (c:Nat) (i:It):Prop:=∀K n E,∃k R,k≤c∧Ru t k (i :: K) n E R
theorem soon_fl (t:Tv) (x:Fl) (hx:∀m,x≠.mt m) (c:Nat):Soon t c (.fl x):=by
 intro K n E
 have h:It.step t (.fl x)=if x.takes t then .tk else .ref:=by
  cases x with
  |mt m=>exact absurd rfl (hx m)
  |_=>rfl
 by_cases hb:x.takes t=true
 ·rw [if_pos hb] at h;exact ⟨0,_,Nat.zero_le _,.tk h⟩
 ·rw [if_neg hb] at h;exact ⟨0,_,Nat.zero_le _,.ref h⟩
theorem soon_go {t:Tv}{i j:It}{d:Int}{o:List Ev}{r:List It}{c:Nat}(h:It.step t i=.go d o (j :: r)) (hj:Soon t c j):Soon t (c+1) i:=by
 intro K n E
 obtain ⟨k,R,hk,hR⟩:=hj (r++K) (n+d) (E++o)
 exact ⟨k+1,R,by omega,.go h hR⟩
theorem Soon.up {t:Tv}{c c':Nat}{i:It}(h:Soon t c i) (hc:c≤c'):Soon t c' i:=by
 intro K n E
 obtain ⟨k,R,hk,hR⟩:=h K n E
 exact ⟨k,R,by omega,hR⟩
theorem soon_ref {t:Tv}{i:It}(h:It.step t i=.ref) (c:Nat):Soon t c i:=fun K n E=>⟨0,_,Nat.zero_le _,.ref h⟩
theorem ne_wd {k:Int}{ts:List ByteArray}:∀m,Fl.wd k ts≠.mt m:=fun m h=>by cases h
theorem ne_nm:∀m,Fl.nm≠.mt m:=fun m h=>by cases h
theorem ne_cs:∀m,Fl.cs≠.mt m:=fun m h=>by cases h
theorem soon_w {t:Tv}{i:It}{d:Int}{o:List Ev}{x:Fl}{r:List It}(h:It.step t i=.go d o (.fl x :: r)) (hx:∀m,x≠.mt m):Soon t 1 i:=soon_go h (soon_fl t x hx 0)
theorem soon_object (t:Tv):Soon t 1 (.fl (.mt .object)):=soon_w rfl ne_nm
theorem soon_typed (t:Tv):Soon t 1 (.fl (.mt .typed)):=soon_w rfl ne_nm
theorem soon_row {t:Tv}{m:M}{c:Nat}(R:Gw) (hR:M.row t m=R) (h:R=.ref∨(∃x r,(∀m,x≠Fl.mt m)∧(R=.ex (.fl x :: r)∨∃nd,R=.op nd (.fl x :: r)))):Soon t 1 (.fl (.mt m)):=by
 have hs:It.step t (.fl (.mt m))=R.sr:=by simp only [It.step,Fl.step,hR]
 rcases h with rfl|⟨x,r,hx,rfl|⟨nd,rfl⟩⟩
 ·exact soon_ref hs 1
 ·exact soon_w hs hx
 ·exact soon_w (d:=1) (o:=[⟨1,nd,tv0⟩]) (x:=x) (r:=r++[It.lv nd]) hs hx
theorem soon_factor (t:Tv):Soon t 2 (.fl (.mt .factor)):=by
 by_cases h:facN t=28
 ·have hs:It.step t (.fl (.mt .factor))=.go 0 [] [.fl (.mt .object)]:=by simp [It.step,Fl.step,M.row,h,Gw.sr]
  exact soon_go hs (soon_object t)
 ·refine (soon_row (c:=0) _ rfl ?_).up (by omega)
  have h':(facN t == 28)=false:=by simpa using h
  simp only [M.row,h',Bool.false_eq_true,if_false]
  repeat' split
  all_goals first
   |exact .inl rfl
   |exact .inr ⟨_,_,ne_wd,.inr ⟨_,rfl⟩⟩
   |exact .inr ⟨_,_,ne_cs,.inr ⟨_,rfl⟩⟩
   | (rename_i hh;simp at hh)
theorem soon_kind (t:Tv):Soon t 1 (.fl (.mt .kind)):=by
 refine soon_row (c:=0) _ rfl ?_
 simp only [M.row]
 repeat' split
 all_goals first
  |exact .inl rfl
  |exact .inr ⟨_,_,ne_wd,.inr ⟨_,rfl⟩⟩
  |exact .inr ⟨_,_,ne_nm,.inr ⟨_,rfl⟩⟩
theorem soon_statement (t:Tv):Soon t 2 (.fl (.mt .statement)):=by
 by_cases h:(t.k == 1)=true
 ·have hs:It.step t (.fl (.mt .statement))=.go 1 [⟨1,14,tv0⟩] ([.fl (.mt .object),.once (.row [.wd 6 [⟨#[58,61]⟩],.mt .expr])]++[.lv 14]):=by simp [It.step,Fl.step,M.row,h,Gw.sr]
  exact soon_go (r:=[.once (.row [.wd 6 [⟨#[58,61]⟩],.mt .expr]),.lv 14]) hs (soon_object t)
 ·refine (soon_row (c:=0) _ rfl ?_).up (by omega)
  have h':(t.k == 1)=false:=by simpa using h
  simp only [M.row,h',Bool.false_eq_true,if_false,wordedR]
  repeat' split
  all_goals first
   |exact .inl rfl
   |exact .inr ⟨_,_,ne_wd,.inr ⟨_,rfl⟩⟩
   | (rename_i hh;simp at hh)
theorem soon_term (t:Tv):Soon t 3 (.fl (.mt .term)):=soon_go rfl (soon_factor t)
theorem soon_sum (t:Tv):Soon t 4 (.fl (.mt .sum)):=soon_go rfl (soon_term t)
theorem soon_rel (t:Tv):Soon t 5 (.fl (.mt .rel)):=soon_go rfl (soon_sum t)
theorem soon_expr (t:Tv):Soon t 6 (.fl (.mt .expr)):=soon_go rfl (soon_rel t)
theorem soon_decl (t:Tv) (m:M) (h:m=.variables∨m=.constants∨m=.procedure∨m=.params∨m=.index∨m=.selection∨m=.args):Soon t 1 (.fl (.mt m)):=by
 rcases h with rfl|rfl|rfl|rfl|rfl|rfl|rfl <;> exact soon_w rfl ne_wd
theorem dk_pick {t:Tv}{d:Dk}{m:M}(h:d.pick t=some m):m=.variables∨m=.constants∨m=.procedure∨m=.params∨m=.index∨m=.selection∨m=.args:=by
 cases d <;> simp only [Dk.pick] at h <;> repeat' (split at h)
 all_goals first|(cases h;done)|(cases h;simp)
theorem soon_block (t:Tv):Soon t 4 (.fl (.mt .block)):=by
 intro K n E
 have hs:It.step t (.fl (.mt .block))=.go 1 [⟨1,2,tv0⟩] (.again (.fn .declaration) :: .fl (.wd 2 [⟨#[98,101,103,105,110]⟩]) :: [.fl (.mt .body),.fl (.wd 2 [⟨#[101,110,100]⟩]),.lv 2]):=rfl
 cases hp:Dk.pick t .declaration with
 |none=>
  have h2:It.step t (.again (.fn .declaration))=.go 0 [] []:=by simp [It.step,Pk.pick,hp,agR]
  obtain ⟨k,R,hk,hR⟩:=soon_fl t (.wd 2 [⟨#[98,101,103,105,110]⟩]) ne_wd 0 ([.fl (.mt .body),.fl (.wd 2 [⟨#[101,110,100]⟩]),.lv 2]++K) (n+1+0) (E++[⟨1,2,tv0⟩]++[])
  exact ⟨k+1+1,R,by omega,.go hs (.go h2 hR)⟩
 |some m=>
  have h2:It.step t (.again (.fn .declaration))=.go 0 [] (.fl (.mt m) :: [.again (.fn .declaration)]):=by simp [It.step,Pk.pick,hp,agR]
  exact ((soon_go hs (soon_go h2 (soon_decl t m (dk_pick hp)))).up (by omega)) K n E
theorem soon_mt (t:Tv) (m:M):Soon t 8 (.fl (.mt m)):=by
 cases m with
 |block=>exact (soon_block t).up (by omega)
 |variables=>exact (soon_decl t _ (by simp)).up (by omega)
 |constants=>exact (soon_decl t _ (by simp)).up (by omega)
 |procedure=>exact (soon_decl t _ (by simp)).up (by omega)
 |params=>exact (soon_decl t _ (by simp)).up (by omega)
 |param=>exact (soon_go rfl (soon_typed t)).up (by omega)
 |typed=>exact (soon_typed t).up (by omega)
 |kind=>exact (soon_kind t).up (by omega)
 |member=>exact (soon_go rfl (soon_typed t)).up (by omega)
 |body=>exact (soon_go rfl (soon_statement t)).up (by omega)
 |statement=>exact (soon_statement t).up (by omega)
 |expr=>exact (soon_expr t).up (by omega)
 |rel=>exact (soon_rel t).up (by omega)
 |sum=>exact (soon_sum t).up (by omega)
 |term=>exact (soon_term t).up (by omega)
 |factor=>exact (soon_factor t).up (by omega)
 |object=>exact (soon_object t).up (by omega)
 |index=>exact (soon_decl t _ (by simp)).up (by omega)
 |selection=>exact (soon_decl t _ (by simp)).up (by omega)
 |args=>exact (soon_decl t _ (by simp)).up (by omega)
 |list=>exact (soon_go rfl (soon_expr t)).up (by omega)
theorem soon_flat (t:Tv) (x:Fl):Soon t 8 (.fl x):=by
 cases x with
 |mt m=>exact soon_mt t m
 |_=>exact soon_fl t _ (fun m h=>by cases h) 8
theorem soon_pick {t:Tv}{p:Pk}(hp:p.wf) {i:It}(h:Pk.pick t p=some i):Soon t 9 i:=by
 cases p with
 |fn d=>
  simp only [Pk.pick,Option.map_eq_some_iff] at h
  obtain ⟨m,_,rfl⟩:=h
  exact (soon_mt t m).up (by omega)
 |row r=>
  simp only [Pk.pick] at h
  split at h
  ·cases h
   obtain ⟨⟨k,ts,rest,rfl⟩,_⟩:=hp
   exact (soon_go (r:=rest.map It.fl) rfl (soon_fl t (.wd k ts) ne_wd 0)).up (by omega)
  ·cases h
 |ex m=>
  simp only [Pk.pick] at h
  split at h
  ·cases h
  ·cases h;exact (soon_mt t m).up (by omega)
theorem ru_ex (t:Tv):∀(K:List It),wfs K→∀n E,∃k R,k≤K.length+20∧Ru t k K n E R
 |[],_,n,E=>⟨0,_,Nat.zero_le _,.nil⟩
 |i :: K,hw,n,E=>by
  have hi:i.wf:=hw i (List.mem_cons_self ..)
  have hK:wfs K:=fun j hj=>hw j (List.mem_cons_of_mem _ hj)
  have pop:∀d o,It.step t i=.go d o []→∃k R,k≤(i :: K).length+20∧Ru t k (i :: K) n E R:=by
   intro d o h
   obtain ⟨k,R,hk,hR⟩:=ru_ex t K hK (n+d) (E++o)
   exact ⟨k+1,R,by simp;omega,.go h hR⟩
  have soon:∀c,c≤20→Soon t c i→∃k R,k≤(i :: K).length+20∧Ru t k (i :: K) n E R:=by
   intro c hc h
   obtain ⟨k,R,hk,hR⟩:=h K n E
   exact ⟨k,R,by omega,hR⟩
  cases i with
  |fl x=>exact soon 8 (by omega) (soon_flat t x)
  |lv nd=>exact pop _ _ rfl
  |once p=>
   cases hp:Pk.pick t p with
   |none=>exact pop 0 [] (by simp [It.step,hp])
   |some j=>exact soon 10 (by omega) (soon_go (r:=[]) (by simp [It.step,hp];exact ⟨rfl,rfl⟩) (soon_pick hi hp))
  |again p=>
   cases hp:Pk.pick t p with
   |none=>exact pop 0 [] (by simp [It.step,hp,agR])
   |some j=>exact soon 10 (by omega) (soon_go (r:=[.again p]) (by simp [It.step,hp,agR];exact ⟨rfl,rfl⟩) (soon_pick hi hp))
  |all r=>
   obtain ⟨⟨k,ts,rest,rfl⟩,_⟩:=hi
   exact soon 1 (by omega) (soon_go (r:=rest.map It.fl) rfl (soon_fl t (.wd k ts) ne_wd 0))
structure D where
 i:Nat
 p:List (Int × Nat)
 s:Nat
 l:List (Int × Nat)
 e:Int
 v:List Ev
 N:Nat→List Ev
def nxt (L:List Tv) (d:D):Option Tv:=if d.e=0 then L[d.i]? else none
def qn (L:List Tv) (d:D) (f:Tv→Bool):Bool:=(nxt L d).elim false f
def opD (n:Int) (d:D):D:=if d.e=0 then { d with p:=d.p++[(n,d.s+1)],s:=d.s+1,v:=d.v++[⟨1,n,tv0⟩] } else d
def clD (n:Int) (d:D):D:=if d.e=0 then { d with p:=d.p.dropLast,v:=d.v++[⟨3,n,tv0⟩] } else d
def tkD (L:List Tv) (r:Bool) (d:D):D:=
 if r then (if 1000<d.p.length then { d with e:=122 } else { d with i:=d.i+1,l:=if d.i+1=L.length then d.p else d.l,v:=d.v++⟨2,0,L[d.i]?.getD tv0⟩ :: d.N d.i })
 else if d.e=0 then (if d.i<L.length then { d with e:=120 } else { d with e:=121 }) else d
def wk (k:Int) (s:ByteArray) (t:Tv):Bool:=t.k == k && decide (t.t=s)
def Dk.kd:Dk→Int
 |.declaration=>2
 |_=>6
def drow (o:Option Tv):M→Gw
 |.kind=>if o.elim false (wk 2 ⟨#[97,114,114,97,121]⟩) then .op 9 [.fl (.wd 2 [⟨#[97,114,114,97,121]⟩]),.fl (.wd 6 [⟨#[91]⟩]),.fl (.mt .expr),.fl (.wd 6 [⟨#[46,46]⟩]),.fl (.mt .expr),.fl (.wd 6 [⟨#[93]⟩]),.fl (.wd 2 [⟨#[111,102]⟩]),.fl (.mt .kind)]
  else if o.elim false (wk 2 ⟨#[114,101,99,111,114,100]⟩) then .op 10 [.fl (.wd 2 [⟨#[114,101,99,111,114,100]⟩]),.fl (.mt .member),.again (.row [.wd 6 [⟨#[59]⟩],.mt .member]),.fl (.wd 2 [⟨#[101,110,100]⟩])] else .op 8 [.fl .nm]
 |.statement=>match o with
  |none=>.ref
  |some t=>if t.k == 1 then .op 14 [.fl (.mt .object),.once (.row [.wd 6 [⟨#[58,61]⟩],.mt .expr])] else if t.k == 2 then wordedR t.t else .ref
 |.factor=>match o with
  |none=>.ref
  |some t=>M.row t .factor
 |m=>M.row tv0 m
def dpick (o:Option Tv) (p:Pk):Option It:=
 match o with
 |none=>none
 |some t=>match p with
  |.fn d=>if t.k == d.kd then (d.pick t).map (fun m=>.fl (.mt m)) else none
  |p=>Pk.pick t p
def dst (L:List Tv):It→D→List It × D
 |.fl (.mt m),d=>match drow (nxt L d) m with
  |.ref=>([],tkD L false d)
  |.ex r=>(r,d)
  |.op nd r=>(r++[.lv nd],opD nd d)
 |.fl x,d=>([],tkD L (qn L d (fun t=>x.takes t)) d)
 |.lv n,d=>([],clD n d)
 |.once p,d=>((dpick (nxt L d) p).toList,d)
 |.again p,d=>(agR p (dpick (nxt L d) p),d)
 |.all r,d=>(r.map It.fl,d)
inductive Rch (L:List Tv):List It→D→List It→D→Prop
 |refl {K:List It} {d:D}:Rch L K d K d
 |step {i:It} {K K':List It} {d d':D}:Rch L ((dst L i d).1++K) (dst L i d).2 K' d'→Rch L (i :: K) d K' d'
theorem Rch.trans {L:List Tv}{K K1 K2:List It}{d d1 d2:D}(h:Rch L K d K1 d1) (h':Rch L K1 d1 K2 d2):Rch L K d K2 d2:=by
 induction h with
 |refl=>exact h'
 |step _ ih=>exact .step (ih h')
theorem Rch.det {L:List Tv}{K K1:List It}{d d1 d2:D}(h:Rch L K d K1 d1) (h':Rch L K d [] d2):Rch L K1 d1 [] d2:=by
 induction h with
 |refl=>exact h'
 |step _ ih=>
  cases h' with
  |step h2=>exact ih h2
def Ib (L:List Tv) (i:It) (d d':D):Prop:=∀K,Rch L (i :: K) d K d'
def Rb (L:List Tv) (r:List It) (d d':D):Prop:=∀K,Rch L (r++K) d K d'
theorem rb_nil {L:List Tv}{d:D}:Rb L [] d d:=fun K=>.refl
theorem rb_cons {L:List Tv}{i:It}{r:List It}{d d1 d2:D}(h:Ib L i d d1) (h':Rb L r d1 d2):Rb L (i :: r) d d2:=fun K=>(h (r++K)).trans (h' K)
theorem ib_tk {L:List Tv}{d:D}{x:Fl}(hx:∀m,x≠.mt m):Ib L (.fl x) d (tkD L (qn L d (fun t=>x.takes t)) d):=fun K=>by
 refine .step ?_
 cases x with
 |mt m=>exact absurd rfl (hx m)
 |_=>exact .refl
theorem ib_lv {L:List Tv}{d:D}{n:Int}:Ib L (.lv n) d (clD n d):=fun K=>.step .refl
theorem ib_op {L:List Tv}{d d':D}{m:M}{nd:Int}{r:List It}(h:drow (nxt L d) m=.op nd r) (h':Rb L (r++[.lv nd]) (opD nd d) d'):Ib L (.fl (.mt m)) d d':=fun K=>by
 refine .step ?_
 have e:dst L (.fl (.mt m)) d=(r++[.lv nd],opD nd d):=by simp only [dst,h]
 rw [e]
 exact h' K
theorem ib_ex {L:List Tv}{d d':D}{m:M}{r:List It}(h:drow (nxt L d) m=.ex r) (h':Rb L r d d'):Ib L (.fl (.mt m)) d d':=fun K=>by
 refine .step ?_
 have e:dst L (.fl (.mt m)) d=(r,d):=by simp only [dst,h]
 rw [e]
 exact h' K
theorem ib_ref {L:List Tv}{d:D}{m:M}(h:drow (nxt L d) m=.ref):Ib L (.fl (.mt m)) d (tkD L false d):=fun K=>by
 refine .step ?_
 have e:dst L (.fl (.mt m)) d=([],tkD L false d):=by simp only [dst,h]
 rw [e]
 exact .refl
theorem ib_all {L:List Tv}{d d':D}{r:List Fl}(h:Rb L (r.map It.fl) d d'):Ib L (.all r) d d':=fun K=>.step (h K)
theorem ib_once0 {L:List Tv}{d:D}{p:Pk}(h:dpick (nxt L d) p=none):Ib L (.once p) d d:=fun K=>by
 refine .step ?_
 simp only [dst,h]
 exact .refl
theorem ib_once1 {L:List Tv}{d d':D}{p:Pk}{i:It}(h:dpick (nxt L d) p=some i) (h':Ib L i d d'):Ib L (.once p) d d':=fun K=>by
 refine .step ?_
 simp only [dst,h]
 exact h' K
theorem ib_again0 {L:List Tv}{d:D}{p:Pk}(h:dpick (nxt L d) p=none):Ib L (.again p) d d:=fun K=>by
 refine .step ?_
 simp only [dst,h]
 exact .refl
theorem ib_again1 {L:List Tv}{d d1 d2:D}{p:Pk}{i:It}(h:dpick (nxt L d) p=some i) (h':Ib L i d d1) (h2:Ib L (.again p) d1 d2):Ib L (.again p) d d2:=fun K=>by
 refine .step ?_
 simp only [dst,h]
 exact (h' (.again p :: K)).trans (h2 K)
def ms (L:List Tv) (d:D):Nat:=if d.e=0 then L.length-d.i+1 else 0
theorem ms_op {L:List Tv}{d:D}{n:Int}:ms L (opD n d)=ms L d:=by unfold opD;split <;> rfl
theorem ms_cl {L:List Tv}{d:D}{n:Int}:ms L (clD n d)=ms L d:=by unfold clD;split <;> rfl
theorem qn_live {L:List Tv}{d:D}{f:Tv→Bool}(h:qn L d f=true):d.e=0∧d.i<L.length:=by
 unfold qn nxt at h
 split at h
 ·rename_i he
  refine ⟨he,?_⟩
  cases hl:L[d.i]? with
  |none=>rw [hl] at h;cases h
  |some t=>exact (List.getElem?_eq_some_iff.1 hl).1
 ·cases h
theorem ms_tk {L:List Tv}{d:D}{f:Tv→Bool}{r:Bool}(h:r=qn L d f):ms L (tkD L r d)≤ms L d∧(0<ms L d→ms L (tkD L r d)<ms L d):=by
 cases hr:r with
 |true=>
  rw [hr] at h
  obtain ⟨he,hi⟩:=qn_live h.symm
  unfold tkD ms
  simp only [if_true]
  split
  ·simp [he]
  ·simp only [he,if_true]
   omega
 |false=>
  unfold tkD ms
  simp only [Bool.false_eq_true,if_false]
  by_cases he:d.e=0
  ·simp only [he,if_true]
   split <;> simp
  ·simp [he]
def Pn (d:D):Prop:=d.e=0→d.p≠[]
theorem opD_dead {n:Int}{d:D}(he:¬d.e=0):opD n d=d:=by unfold opD;rw [if_neg he]
theorem clD_dead {n:Int}{d:D}(he:¬d.e=0):clD n d=d:=by unfold clD;rw [if_neg he]
def tkI (L:List Tv) (x:Fl) (d:D):D:=tkD L (qn L d (fun t=>x.takes t)) d
theorem wk_is (k:Int) (s:ByteArray) (t:Tv):wk k s t=(t.k == k && t.t.toList == s.toList):=by unfold wk;rw [btl_eq]
theorem drow_ok (o:Option Tv) (m:M):(drow o m).ok:=by
 cases m with
 |kind=>
  simp only [drow]
  repeat' split
  all_goals simp [Gw.ok,wfs,It.wf,Pk.wf,rwf,lvs]
 |statement=>
  cases o with
  |none=>trivial
  |some t=>
   simp only [drow]
   split
   ·simp [Gw.ok,wfs,It.wf,Pk.wf,rwf,lvs]
   ·split
    ·exact wordedR_ok _
    ·trivial
 |factor=>
  cases o with
  |none=>trivial
  |some t=>exact row_ok t .factor
 |_=>simp only [drow];exact row_ok tv0 _
theorem drow_lvs {o:Option Tv}{m:M}:(∀r,drow o m=.ex r→lvs r=[])∧(∀nd r,drow o m=.op nd r→lvs r=[]):=by
 have h:=drow_ok o m
 constructor
 ·intro r e;rw [e] at h;exact h.2.2
 ·intro nd r e;rw [e] at h;exact h.2.2.1
theorem dpick_lvs {o:Option Tv}{p:Pk}{i:It}(h:dpick o p=some i):lvs [i]=[]:=by
 cases o with
 |none=>cases h
 |some t=>
  cases p with
  |fn d=>
   simp only [dpick] at h
   split at h
   ·simp only [Option.map_eq_some_iff] at h
    obtain ⟨m,_,rfl⟩:=h
    rfl
   ·cases h
  |row r=>
   simp only [dpick,Pk.pick] at h
   split at h
   ·cases h;rfl
   ·cases h
  |ex m=>
   simp only [dpick,Pk.pick] at h
   split at h
   ·cases h
   ·cases h;rfl
theorem tkD_live {L:List Tv}{b:Bool}{d:D}(h:(tkD L b d).e=0):b=true∧d.e=0∧(tkD L b d).p=d.p∧d.p.length≤1000:=by
 unfold tkD at h ⊢
 cases b with
 |true=>
  simp only [if_true] at h ⊢
  split at h
  ·cases h
  ·rename_i hd
   rw [if_neg hd]
   exact ⟨trivial,h,rfl,by omega⟩
 |false=>
  simp only [Bool.false_eq_true,if_false] at h
  split at h
  ·split at h <;> cases h
  ·rename_i he;exact absurd h he
theorem opD_live {n:Int}{d:D}:(opD n d).e=d.e:=by unfold opD;split <;> rfl
theorem clD_live {n:Int}{d:D}:(clD n d).e=d.e:=by unfold clD;split <;> rfl
theorem dst_path {L:List Tv}{i:It}{d:D}(h:(dst L i d).2.e=0):d.e=0∧∀(K:List It) (base q:List (Int × Nat)),d.p=base++q→q.map (·.1)=(lvs (i :: K)).reverse→∃q',(dst L i d).2.p=base++q'∧q'.map (·.1)=(lvs ((dst L i d).1++K)).reverse:=by
 cases i with
 |fl x=>
  by_cases hx:∃m,x=.mt m
  ·obtain ⟨m,rfl⟩:=hx
   obtain ⟨l1,l2⟩:=drow_lvs (o:=nxt L d) (m:=m)
   simp only [dst] at h ⊢
   cases hr:drow (nxt L d) m with
   |ref=>
    rw [hr] at h
    exact absurd (tkD_live h).1 (by decide)
   |ex r=>
    rw [hr] at h
    refine ⟨h,fun K base q e1 e2=>⟨q,e1,?_⟩⟩
    rw [lvs_app,l1 r hr]
    exact e2
   |op nd r=>
    rw [hr] at h
    simp only at h ⊢
    have he:d.e=0:=by rw [←opD_live (n:=nd)];exact h
    refine ⟨he,fun K base q e1 e2=>⟨q++[(nd,d.s+1)],?_,?_⟩⟩
    ·unfold opD
     rw [if_pos he]
     simp [e1]
    ·rw [lvs_app,lvs_app,l2 nd r hr]
     simp only [lvs,List.map_append,e2]
     simp
  ·have e:dst L (.fl x) d=([],tkD L (qn L d (fun t=>x.takes t)) d):=by
    cases x with
    |mt m=>exact absurd ⟨m,rfl⟩ hx
    |_=>rfl
   rw [e] at h ⊢
   obtain ⟨_,he,hp,_⟩:=tkD_live h
   exact ⟨he,fun K base q e1 e2=>⟨q,by rw [hp];exact e1,e2⟩⟩
 |lv n=>
  simp only [dst] at h ⊢
  rw [clD_live] at h
  refine ⟨h,fun K base q e1 e2=>⟨q.dropLast,?_,?_⟩⟩
  ·unfold clD
   rw [if_pos h]
   have hq:q≠[]:=by
    intro hq
    rw [hq] at e2
    simp [lvs] at e2
   show d.p.dropLast=_
   rw [e1,List.dropLast_append_of_ne_nil hq]
  ·rw [List.map_dropLast,e2]
   simp [lvs]
 |once p=>
  simp only [dst] at h ⊢
  refine ⟨h,fun K base q e1 e2=>⟨q,e1,?_⟩⟩
  cases hp:dpick (nxt L d) p with
  |none=>exact e2
  |some i=>
   show _=(lvs ([i]++K)).reverse
   rw [lvs_app,dpick_lvs hp]
   exact e2
 |again p=>
  simp only [dst] at h ⊢
  refine ⟨h,fun K base q e1 e2=>⟨q,e1,?_⟩⟩
  cases hp:dpick (nxt L d) p with
  |none=>exact e2
  |some i=>
   show _=(lvs ([i]++(.again p :: K))).reverse
   rw [lvs_app,dpick_lvs hp]
   exact e2
 |all r=>
  simp only [dst] at h ⊢
  refine ⟨h,fun K base q e1 e2=>⟨q,e1,?_⟩⟩
  rw [lvs_app,lvs_fl]
  exact e2
theorem rch_path {L:List Tv}{K K':List It}{d d':D}(h:Rch L K d K' d') (hl:d'.e=0):d.e=0∧∀(base q:List (Int × Nat)),d.p=base++q→q.map (·.1)=(lvs K).reverse→∃q',d'.p=base++q'∧q'.map (·.1)=(lvs K').reverse:=by
 induction h with
 |refl=>exact ⟨hl,fun base q e1 e2=>⟨q,e1,e2⟩⟩
 |step _ ih=>
  obtain ⟨h1,h2⟩:=ih hl
  obtain ⟨h3,h4⟩:=dst_path h1
  refine ⟨h3,fun base q e1 e2=>?_⟩
  obtain ⟨q1,e3,e4⟩:=h4 _ base q e1 e2
  exact h2 base q1 e3 e4
theorem ib_path {L:List Tv}{i:It}{d d':D}(hi:lvs [i]=[]) (h:Ib L i d d') (hl:d'.e=0):d.e=0∧d'.p=d.p:=by
 obtain ⟨h1,h2⟩:=rch_path (h []) hl
 obtain ⟨q,e1,e2⟩:=h2 d.p [] (by simp) (by rw [hi];rfl)
 have:q=[]:=by simpa [lvs] using e2
 exact ⟨h1,by rw [e1,this];simp⟩
theorem pn_ib {L:List Tv}{i:It}{d d':D}(h:Pn d) (hi:lvs [i]=[]) (hb:Ib L i d d'):Pn d':=by
 intro he
 obtain ⟨h1,h2⟩:=ib_path hi hb he
 rw [h2]
 exact h h1
theorem dst_ms {L:List Tv}{i:It}{d:D}:ms L (dst L i d).2≤ms L d:=by
 have ref:ms L (tkD L false d)≤ms L d:=by
  unfold tkD ms
  simp only [Bool.false_eq_true,if_false]
  by_cases he:d.e=0
  ·simp only [he,if_true];split <;> simp
  ·simp [he]
 cases i with
 |fl x=>
  by_cases hx:∃m,x=.mt m
  ·obtain ⟨m,rfl⟩:=hx
   simp only [dst]
   cases drow (nxt L d) m with
   |ref=>exact ref
   |ex r=>exact Nat.le_refl _
   |op nd r=>exact Nat.le_of_eq ms_op
  ·have e:dst L (.fl x) d=([],tkD L (qn L d (fun t=>x.takes t)) d):=by
    cases x with
    |mt m=>exact absurd ⟨m,rfl⟩ hx
    |_=>rfl
   rw [e]
   exact (ms_tk rfl).1
 |lv n=>exact Nat.le_of_eq ms_cl
 |_=>exact Nat.le_refl _
theorem rch_ms {L:List Tv}{K K':List It}{d d':D}(h:Rch L K d K' d'):ms L d'≤ms L d:=by
 induction h with
 |refl=>exact Nat.le_refl _
 |step _ ih=>exact Nat.le_trans ih dst_ms
theorem ms_ib {L:List Tv}{i:It}{d d':D}(h:Ib L i d d'):ms L d'≤ms L d:=rch_ms (h [])
theorem ms_tkI {L:List Tv}{x:Fl}{d:D}:ms L (tkI L x d)≤ms L d∧(0<ms L d→ms L (tkI L x d)<ms L d):=ms_tk rfl
theorem ib_w {L:List Tv}{d:D}{k:Int}{ts:List ByteArray}:Ib L (.fl (.wd k ts)) d (tkI L (.wd k ts) d):=ib_tk ne_wd
theorem ib_n {L:List Tv}{d:D}:Ib L (.fl .nm) d (tkI L .nm d):=ib_tk ne_nm
theorem ib_c {L:List Tv}{d:D}:Ib L (.fl .cs) d (tkI L .cs d):=ib_tk ne_cs
theorem pick_row1 {L:List Tv}{d:D}{x:Fl}{r:List Fl}(h:qn L d (fun t=>Fl.takes t x)=true):dpick (nxt L d) (.row (x :: r))=some (.all (x :: r)):=by
 unfold qn at h
 cases hn:nxt L d with
 |none=>rw [hn] at h;cases h
 |some t=>
  rw [hn] at h
  simp only [Option.elim] at h
  simp [dpick,Pk.pick,h]
theorem pick_row0 {L:List Tv}{d:D}{x:Fl}{r:List Fl}(h:qn L d (fun t=>Fl.takes t x)=false):dpick (nxt L d) (.row (x :: r))=none:=by
 unfold qn at h
 cases hn:nxt L d with
 |none=>rfl
 |some t=>
  rw [hn] at h
  simp only [Option.elim] at h
  simp [dpick,Pk.pick,h]
structure Lp (L:List Tv) (p:Pk) (d0 d:D):Prop where
 go:∀d2,Ib L (.again p) d d2→Ib L (.again p) d0 d2
 le:ms L d≤ms L d0
 pn:Pn d0→Pn d
theorem Lp.refl {L:List Tv}{p:Pk}{d:D}:Lp L p d d:=⟨fun _ h=>h,Nat.le_refl _,fun h=>h⟩
theorem Lp.step {L:List Tv}{p:Pk}{d0 d d1:D}{i:It}(h:Lp L p d0 d) (hp:dpick (nxt L d) p=some i) (hi:Ib L i d d1):Lp L p d0 d1:=
 ⟨fun d2 h2=>h.go d2 (ib_again1 hp hi h2),Nat.le_trans (ms_ib hi) h.le,fun hn=>pn_ib (h.pn hn) (dpick_lvs hp) hi⟩
theorem Lp.fin {L:List Tv}{p:Pk}{d0 d:D}(h:Lp L p d0 d) (hp:dpick (nxt L d) p=none):Ib L (.again p) d0 d:=h.go d (ib_again0 hp)
def pev:List Ev→List (Int × Nat) × Nat→List (Int × Nat) × Nat
 |[],x=>x
 |e :: o,(p,s)=>if e.k=1 then pev o (p++[(e.n,s+1)],s+1) else if e.k=3 then pev o (p.dropLast,s) else pev o (p,s)
theorem pev_app:∀(a b:List Ev) (x:List (Int × Nat) × Nat),pev (a++b) x=pev b (pev a x)
 |[],b,x=>rfl
 |e :: a,b,(p,s)=>by
  simp only [List.cons_append,pev]
  split
  ·exact pev_app a b _
  ·split
   ·exact pev_app a b _
   ·exact pev_app a b _
def putE (d:D) (o:List Ev):D:={ d with p:=(pev o (d.p,d.s)).1,s:=(pev o (d.p,d.s)).2,v:=d.v++o }
theorem putE_nil (d:D):putE d []=d:=by simp [putE,pev]
theorem putE_app (d:D) (a b:List Ev):putE (putE d a) b=putE d (a++b):=by simp [putE,pev_app]
def bad (k:Dk) (t:Tv):Prop:=(t.k == k.kd)=false∧(k=.detail→(t.is [91] || t.is [46] || t.is [40])=true)
def okT (ts:List ByteArray):Bool:=ts.all (fun s=>!(s.toList == [91] || s.toList == [46] || s.toList == [40]))
def blk (k:Dk):It→Bool
 |.fl (.wd q ts)=>match k with
  |.declaration=>q == 2
  |.bracket=>q == 6
  |.detail=>q == 6 || okT ts
 |_=>false
def trn (k:Dk):It→Bool
 |.lv _=>match k with|.detail=>true|_=>false
 |.once (.row (.wd q ts :: _))=>match k with
  |.declaration=>false
  |.bracket=>q == 6
  |.detail=>q == 6 || okT ts
 |.again (.row (.wd q ts :: _))=>match k with
  |.detail=>q == 6 || okT ts
  |_=>false
 |.once (.fn _)=>match k with|.detail=>true|_=>false
 |.again (.fn _)=>match k with|.detail=>true|_=>false
 |_=>false
def sgd (k:Dk):List It→Bool
 |[]=>true
 |i :: K=>blk k i || (trn k i && sgd k K)
def Refd (L:List Tv) (K:List It) (d:D):Prop:=∃K' d',Rch L K d K' d'∧d'.i=d.i∧(d'.e=120∨(K'=[]∧d'.e=0))
theorem Refd.step {L:List Tv}{i:It}{K:List It}{d:D}(h:Refd L ((dst L i d).1++K) (dst L i d).2) (hi:(dst L i d).2.i=d.i):Refd L (i :: K) d:=by
 obtain ⟨K',d',h1,h2,h3⟩:=h
 exact ⟨K',d',.step h1,h2.trans hi,h3⟩
theorem nxt_lt {L:List Tv}{d:D}{t:Tv}(h:nxt L d=some t):d.e=0∧L[d.i]?=some t∧d.i<L.length:=by
 unfold nxt at h
 split at h
 ·rename_i he
  exact ⟨he,h,(List.getElem?_eq_some_iff.1 h).1⟩
 ·cases h
theorem ref_tk {L:List Tv}{K:List It}{d:D}{t:Tv}(hn:nxt L d=some t) {x:Fl}(hx:∀m,x≠.mt m) (ht:x.takes t=false):Refd L (.fl x :: K) d:=by
 obtain ⟨he,_,hi⟩:=nxt_lt hn
 have hq:qn L d (fun t=>x.takes t)=false:=by unfold qn;rw [hn];exact ht
 refine ⟨K,_,ib_tk hx K,?_,.inl ?_⟩
 ·rw [hq]
  simp [tkD,he,hi]
 ·rw [hq]
  simp [tkD,he,hi]
theorem has_no {t:Tv}{ts:List ByteArray}(h:okT ts=true) (hb:(t.is [91] || t.is [46] || t.is [40])=true):has ts t.t=false:=by
 refine List.any_eq_false.2 (fun s hs=>?_)
 have h1:=List.all_eq_true.1 h s hs
 simp only [decide_eq_true_eq]
 intro e
 subst e
 unfold Tv.is at hb
 rw [hb] at h1
 cases h1
theorem bad_wd {k:Dk}{t:Tv}{q:Int}{ts:List ByteArray}(hb:bad k t) (h:match k with|.declaration=>q == 2|.bracket=>q == 6|.detail=>q == 6 || okT ts):Fl.takes t (.wd q ts)=false:=by
 obtain ⟨h1,h2⟩:=hb
 simp only [Fl.takes]
 cases k with
 |declaration=>
  simp only [beq_iff_eq] at h
  subst h
  simp only [Dk.kd] at h1
  rw [h1];rfl
 |bracket=>
  simp only [beq_iff_eq] at h
  subst h
  simp only [Dk.kd] at h1
  rw [h1];rfl
 |detail=>
  simp only [Bool.or_eq_true,beq_iff_eq] at h
  rcases h with rfl|h
  ·simp only [Dk.kd] at h1
   rw [h1];rfl
  ·rw [has_no h (h2 rfl),Bool.and_false]
theorem sgd_ref {k:Dk}{t:Tv}(hb:bad k t) {L:List Tv}:∀(K:List It) (d:D),sgd k K=true→nxt L d=some t→Refd L K d
 |[],d,_,hn=>⟨[],d,.refl,rfl,.inr ⟨rfl,(nxt_lt hn).1⟩⟩
 |i :: K,d,h,hn=>by
  have thru:(dst L i d).1=[]→nxt L (dst L i d).2=some t→(dst L i d).2.i=d.i→sgd k K=true→Refd L (i :: K) d:=fun e1 e2 e3 e4=>by
   refine Refd.step ?_ e3
   rw [e1]
   exact sgd_ref hb K _ e4 e2
  simp only [sgd,Bool.or_eq_true,Bool.and_eq_true] at h
  rcases h with h|⟨h,hK⟩
  ·cases i with
   |fl x=>
    cases x with
    |wd q ts=>exact ref_tk hn ne_wd (bad_wd hb (by cases k <;> exact h))
    |_=>cases h
   |_=>cases h
  ·cases i with
   |fl x=>cases h
   |lv n=>
    refine thru rfl ?_ ?_ hK
    ·simp only [dst,clD,(nxt_lt hn).1,if_true]
     simpa [nxt,(nxt_lt hn).1] using hn
    ·simp only [dst,clD,(nxt_lt hn).1,if_true]
   |once p=>
    have hp:dpick (nxt L d) p=none:=by
     rw [hn]
     cases p with
     |fn q=>
      cases k with
      |detail=>
       have h2:=hb.2 rfl
       simp only [dpick]
       cases q with
       |declaration=>
        split
        ·have hv:t.is [118,97,114]=false∧t.is [99,111,110,115,116]=false∧t.is [112,114,111,99]=false:=by
          unfold Tv.is at h2 ⊢
          simp only [Bool.or_eq_true,beq_iff_eq] at h2
          rcases h2 with (e|e)|e <;> rw [e] <;> decide
         simp [Dk.pick,hv.1,hv.2.1,hv.2.2]
        ·rfl
       |bracket=>rw [if_neg (by rw [show Dk.bracket.kd=Dk.detail.kd from rfl,hb.1];decide)]
       |detail=>rw [if_neg (by rw [hb.1];decide)]
      |_=>cases h
     |row r=>
      cases r with
      |nil=>rfl
      |cons x r=>
       cases x with
       |wd q ts=>
        have:Fl.takes t (.wd q ts)=false:=bad_wd hb (by
         cases k with
         |declaration=>cases h
         |bracket=>exact h
         |detail=>exact h)
        simp [dpick,Pk.pick,this]
       |_=>cases h
     |ex m=>cases h
    refine thru ?_ ?_ rfl hK
    ·simp only [dst,hp];rfl
    ·exact hn
   |again p=>
    have hp:dpick (nxt L d) p=none:=by
     rw [hn]
     cases p with
     |fn q=>
      cases k with
      |detail=>
       have h2:=hb.2 rfl
       simp only [dpick]
       cases q with
       |declaration=>
        split
        ·have hv:t.is [118,97,114]=false∧t.is [99,111,110,115,116]=false∧t.is [112,114,111,99]=false:=by
          unfold Tv.is at h2 ⊢
          simp only [Bool.or_eq_true,beq_iff_eq] at h2
          rcases h2 with (e|e)|e <;> rw [e] <;> decide
         simp [Dk.pick,hv.1,hv.2.1,hv.2.2]
        ·rfl
       |bracket=>rw [if_neg (by rw [show Dk.bracket.kd=Dk.detail.kd from rfl,hb.1];decide)]
       |detail=>rw [if_neg (by rw [hb.1];decide)]
      |_=>cases h
     |row r=>
      cases r with
      |nil=>rfl
      |cons x r=>
       cases x with
       |wd q ts=>
        have:Fl.takes t (.wd q ts)=false:=bad_wd hb (by
         cases k with
         |detail=>exact h
         |_=>cases h)
        simp [dpick,Pk.pick,this]
       |_=>cases h
     |ex m=>cases h
    refine thru ?_ ?_ rfl hK
    ·simp only [dst,hp];rfl
    ·exact hn
   |all r=>cases h
end Go.Proofs.YtkigadnkclkopaaGreatDoor
