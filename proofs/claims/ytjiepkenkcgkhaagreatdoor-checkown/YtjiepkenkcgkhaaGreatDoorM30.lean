import Derived.Test.YtjiepkenkcgkhaaGreatDoorM18
set_option linter.unusedVariables false
set_option linter.unusedSimpArgs false
namespace Go.Proofs.YtjiepkenkcgkhaaGreatDoor
open Go.RowKit
variable {r:List It}{n:Int}{z:Bool}{t:Tv}{p:Pk}{j:It}
structure Cl where
 tE:Int->Int->ByteArray->Bool
 tB:Int->Int->ByteArray->Bool
 nE:Bool
 nB:Bool
 mE:M->Bool
 mB:M->Bool
 dE:Dk->Bool
 dB:Dk->Bool
 xB:Int->M->Bool
variable (c:Cl)
def aQ:List It->Int
 |[]=>0
 |.lv n :: _=>n
 |_ :: K=>aQ K
def Fl.en (n:Int):Fl->Bool
 |.wd k ts=>ts.any (c.tE n k)
 |.mt m=>c.mE m
 |_=>c.nE
def Fl.ba (n:Int):Fl->Bool
 |.wd k ts=>ts.all (c.tB n k)
 |.mt m=>c.mB m
 |_=>c.nB
def MT (n:Int):List Fl->Bool
 |[]=>false
 |[x]=>x.en c n
 |_ :: r=>MT n r
def K7 (n:Int):List Fl->Bool
 |[]=>false
 |x :: _=>x.ba c n
def Pk.en (n:Int):Pk->Bool
 |.fn d=>c.dE d
 |.row r=>MT c n r
 |.ex m=>c.mE m
def Pk.ba (n:Int):Pk->Bool
 |.fn d=>c.dB d
 |.row r=>K7 c n r
 |.ex m=>c.xB n m
def It.en (n:Int):It->Bool
 |.fl x=>x.en c n
 |.lv _=>false
 |.once p=>p.en c n
 |.again p=>p.en c n
 |.all r=>MT c n r
def It.ba (n:Int):It->Bool
 |.fl x=>x.ba c n
 |.lv _=>true
 |.once p=>p.ba c n
 |.again p=>p.ba c n
 |.all r=>K7 c n r
def It.nul:It->Bool
 |.lv _=>true
 |.once _=>true
 |.again _=>true
 |_=>false
def fo:List It->Bool
 |[]=>true
 |i :: K=>i.ba c (aQ K) && (!i.nul || fo K)
def OV (n:Int) (z:Bool):List Fl->Bool
 |[]=>z
 |x :: _=>x.ba c n
def IM (n:Int) (z:Bool):List Fl->Bool
 |[]=>true
 |x :: r=>(!x.en c n || OV c n z r) && IM n z r
def Pc (n:Int) (r:List Fl):Bool:=IM c n true r && (MT c n r || IM c n false r)
def M.nod (n:Int):M->Bool
 |.typed=>decide (n=3\/n=7\/n=11)
 |.list=>decide (n=29\/n=31)
 |.factor=>decide (n=24\/n=25\/n=26)
 |_=>true
def Fl.nod (n:Int):Fl->Bool
 |.mt m=>m.nod n
 |_=>true
def Pk.gd (n:Int):Pk->Bool
 |.fn _=>true
 |.row r=>Pc c n r && r.all (Fl.nod n)
 |.ex m=>m.nod n
def It.gd (n:Int):It->Bool
 |.fl x=>x.nod n
 |.lv _=>true
 |.once p=>p.gd c n
 |.again p=>p.gd c n && (!p.en c n || p.ba c n)
 |.all r=>Pc c n r && r.all (Fl.nod n)
def mJ:List It->Bool
 |[]=>true
 |i :: K=>i.gd c (aQ K) && (!i.en c (aQ K) || fo c K) && mJ K
def Cq (n:Int) (z:Bool):List It->Bool
 |[]=>z
 |i :: r=>i.ba c n && (!i.nul || Cq n z r)
def so (n:Int) (z:Bool):List It->Bool
 |[]=>true
 |i :: r=>i.gd c n && (!i.en c n || Cq c n z r) && so n z r
theorem lE (h:bJ r=[]) (K:List It):aQ (r++K)=aQ K:=by
 induction r with
 |nil=>rfl
 |cons i r ih=>
  cases i with
  |lv n=>cases h
  |_=>exact ih h
theorem kU (h:bJ r=[]) (K:List It):fo c (r++K)=Cq c (aQ K) (fo c K) r:=by
 induction r with
 |nil=>rfl
 |cons i r ih=>
  have h':bJ r=[]:=by cases i <;> first|(cases h;done)|exact h
  show (i.ba c (aQ (r++K)) && (!i.nul || fo c (r++K)))=_
  rw [ih h',lE h'];rfl
theorem sp (h:bJ r=[]) (K:List It):mJ c (r++K)=(so c (aQ K) (fo c K) r && mJ c K):=by
 induction r with
 |nil=>rfl
 |cons i r ih=>
  have h':bJ r=[]:=by cases i <;> first|(cases h;done)|exact h
  show (i.gd c (aQ (r++K)) && (!i.en c (aQ (r++K)) || fo c (r++K)) && mJ c (r++K))=_
  rw [ih h',lE h',kU c h'];simp only [so];rw [Bool.and_assoc,Bool.and_assoc,Bool.and_assoc]
theorem Gj (h:Cq c n z r=true):Cq c n true r=true:=by
 induction r with
 |nil=>rfl
 |cons i r ih=>
  simp only [Cq,QR,QY] at h ⊢;exact ⟨h.1,h.2.imp id ih⟩
theorem Ee (h:so c n false r=true):so c n z r=true:=by
 cases z with
 |false=>exact h
 |true=>
  induction r with
  |nil=>rfl
  |cons i r ih=>
   simp only [so,QR,QY] at h ⊢;exact ⟨⟨h.1.1,h.1.2.imp id (Gj c)⟩,ih h.2⟩
def Gw.ck (m:M):Gw->Prop
 |.ref=>True
 |.ex r=>∀n,m.nod n=true->so c n true r=true/\(c.mE m=false->so c n false r=true)
 |.op nd r=>so c nd true r=true/\(c.mE m=false->so c nd false r=true)
structure Cl.Ok:Prop where
 row:∀t m,(M.row t m).ck c m
 dk:∀d t m,Dk.pick t d=some m->c.mE m=true->c.dE d=true
theorem KC {m:M}(h:so c n true r=true/\(c.mE m=false->so c n false r=true)) (hz:c.mE m=true->z=true):so c n z r=true:=by
 cases hm:c.mE m with
 |false=>exact Ee c (h.2 hm)
 |true=>rw [hz hm];exact h.1
theorem Ef (n:Int) (z:Bool):∀r:List Fl,so c n z (r.map It.fl)=(r.all (Fl.nod n) && IM c n z r)
 |[]=>rfl
 |x :: r=>by
  have e:Cq c n z (r.map It.fl)=OV c n z r:=by
   cases r with
   |nil=>rfl
   |cons y r=>show (y.ba c n && (!false || _))=_;simp [OV]
  show (x.nod n && (!x.en c n || Cq c n z (r.map It.fl)) && so c n z (r.map It.fl))=(x.nod n && r.all (Fl.nod n) && ((!x.en c n || OV c n z r) && IM c n z r))
  rw [Ef n z r,e];cases x.nod n <;> cases r.all (Fl.nod n) <;> cases (!x.en c n || OV c n z r) <;> rfl
theorem Eg {r:List Fl}(h:IM c n false r=true):IM c n z r=true:=by
 cases z with
 |false=>exact h
 |true=>
  induction r with
  |nil=>rfl
  |cons x r ih=>
   simp only [IM,QR,QY] at h ⊢;exact ⟨h.1.imp id (fun h=>by cases r with|nil=>rfl|cons y r=>exact h),ih h.2⟩
theorem Oh {r:List Fl}(h:Pc c n r=true) (hz:MT c n r=true->z=true):IM c n z r=true:=by
 simp only [Pc,QR,QY] at h;cases he:MT c n r with
 |true=>rw [hz he];exact h.1
 |false=>
  rcases h.2 with h2|h2
  ·rw [he] at h2;cases h2
  ·exact Eg c h2
theorem y9 {hc:c.Ok}(h:Pk.pick t p=some j) (n:Int):j.en c n=true->p.en c n=true:=by
 cases p with
 |fn d=>
  simp only [Pk.pick,Q9] at h;obtain ⟨m,hm,rfl⟩:=h;exact fun e=>hc.dk d t m hm e
 |row r=>
  simp only [Pk.pick] at h
  split at h
  ·cases h;exact id
  ·cases h
 |ex m=>
  simp only [Pk.pick] at h
  split at h
  ·cases h
  ·cases h;exact id
theorem yZ (h:Pk.pick t p=some j) {n:Int}(hg:p.gd c n=true):j.gd c n=true:=by
 cases p with
 |fn d=>
  simp only [Pk.pick,Q9] at h;obtain ⟨m,hm,rfl⟩:=h
  rcases nQ hm with rfl|rfl|rfl|rfl|rfl|rfl|rfl <;> rfl
 |row r=>
  simp only [Pk.pick] at h
  split at h
  ·cases h;exact hg
  ·cases h
 |ex m=>
  simp only [Pk.pick] at h
  split at h
  ·cases h
  ·cases h;exact hg
theorem Dd (hc:c.Ok) {t:Tv}{i:It}{d:Int}{o:List Ev}{r K:List It}(h:It.step t i=.go d o r) (hk:mJ c (i :: K)=true):mJ c (r++K)=true:=by
 have hk0:=hk;simp only [mJ,QR,QY,SI] at hk;obtain ⟨⟨hg,he⟩,hK⟩:=hk;cases i with
 |fl x=>
  have hm:∃m,x=.mt m:=by
   cases x with
   |mt m=>exact ⟨m,rfl⟩
   |_=>simp only [It.step,Fl.step] at h;split at h <;> cases h
  obtain ⟨m,rfl⟩:=hm;have hr:=gV t m;have hck:=hc.row t m;have hz:c.mE m=true->fo c K=true:=fun e=>he.elim (fun e1=>by rw [show (It.fl (.mt m)).en c (aQ K)=c.mE m from rfl,e] at e1;cases e1) id
  simp only [It.step,Fl.step] at h;cases hrow:M.row t m with
  |ref=>rw [hrow] at h;cases h
  |ex r'=>
   rw [hrow] at h hr hck;cases h;rw [sp c hr.2.2,hK,U5];exact KC c (hck (aQ K) hg) hz
  |op nd r'=>
   rw [hrow] at h hr hck;cases h;rw [QM,sp c hr.2.2.1]
   have e1:mJ c ([It.lv nd]++K)=true:=by
    show (true && (!false || _) && mJ c K)=true
    simp [hK]
   have e2:aQ ([It.lv nd]++K)=nd:=rfl;have e3:fo c ([It.lv nd]++K)=fo c K:=by show (true && (!true || _))=_;simp
   rw [e1,e2,e3,U5];exact KC c hck hz
 |lv n=>cases h;exact hK
 |once p=>
  simp only [It.step] at h;cases hp:Pk.pick t p with
  |none=>rw [hp] at h;cases h;exact hK
  |some j=>
   rw [hp] at h;cases h;show mJ c (j :: K)=true;simp only [mJ,QR,QY,SI];refine ⟨⟨yZ c hp hg,?_⟩,hK⟩;cases hj:j.en c (aQ K) with
   |false=>exact .inl rfl
   |true=>
    have:=y9 c (hc:=hc) hp _ hj
    rcases he with he|he
    ·rw [show (It.once p).en c (aQ K)=p.en c (aQ K) from rfl,this] at he;cases he
    ·exact .inr he
 |again p=>
  simp only [It.step] at h;cases hp:Pk.pick t p with
  |none=>rw [hp] at h;cases h;exact hK
  |some j=>
   rw [hp] at h;cases h;show mJ c (j :: (.again p :: K))=true;rw [mJ,hk0,U5];have en:aQ (.again p :: K)=aQ K:=rfl;rw [en];simp only [QR,QY,SI];simp only [It.gd,QR,QY,SI] at hg;refine ⟨yZ c hp hg.1,?_⟩;cases hj:j.en c (aQ K) with
   |false=>exact .inl rfl
   |true=>
    have h1:=y9 c (hc:=hc) hp _ hj;refine .inr ?_
    have h2:fo c K=true:=by
     rcases he with he|he
     ·rw [show (It.again p).en c (aQ K)=p.en c (aQ K) from rfl,h1] at he;cases he
     ·exact he
    have h3:p.ba c (aQ K)=true:=hg.2.elim (fun e=>by rw [h1] at e;cases e) id;show (p.ba c (aQ K) && (!true || fo c K))=true;rw [h3,h2];rfl
 |all r'=>
  cases h;simp only [It.gd,QR] at hg;rw [sp c (jS r'),hK,U5,Ef,hg.2,R4];refine Oh c hg.1 (fun e=>?_)
  rcases he with he|he
  ·rw [show (It.all r').en c (aQ K)=MT c (aQ K) r' from rfl,e] at he;cases he
  ·exact he
end Go.Proofs.YtjiepkenkcgkhaaGreatDoor
