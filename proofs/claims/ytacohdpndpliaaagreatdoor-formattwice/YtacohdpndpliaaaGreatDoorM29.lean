import Derived.Test.YtacohdpndpliaaaGreatDoorM18
set_option linter.all false
namespace Go.Proofs.YtacohdpndpliaaaGreatDoor
open Go.RowKit
variable {r:List It}{n:Int}{z:Bool}{t:Tv}{p:Pk}{j:It}
structure Cl where
 tE:Int->Int->ByteArray->Bool
 tB:Int->Int->ByteArray->Bool
 nE:Bool
 nB:Bool
 mE:M->Bool
 mB:M->Bool
 dE:Dk->Bool
 dB:Dk->Bool
 xB:Int->M->Bool
variable (c:Cl)
def aQ:List It->Int
 |[]=>0
 |.lv n :: _=>n
 |_ :: K=>aQ K
def Fl.en (n:Int):Fl->Bool
 |.wd k ts=>ts.any (c.tE n k)
 |.mt m=>c.mE m
 |_=>c.nE
def Fl.ba (n:Int):Fl->Bool
 |.wd k ts=>ts.all (c.tB n k)
 |.mt m=>c.mB m
 |_=>c.nB
def MP (n:Int):List Fl->Bool
 |[]=>false
 |[x]=>x.en c n
 |_ :: r=>MP n r
def K7 (n:Int):List Fl->Bool
 |[]=>false
 |x :: _=>x.ba c n
def Pk.en (n:Int):Pk->Bool
 |.fn d=>c.dE d
 |.row r=>MP c n r
 |.ex m=>c.mE m
def Pk.ba (n:Int):Pk->Bool
 |.fn d=>c.dB d
 |.row r=>K7 c n r
 |.ex m=>c.xB n m
def It.en (n:Int):It->Bool
 |.fl x=>x.en c n
 |.lv _=>false
 |.once p=>p.en c n
 |.again p=>p.en c n
 |.all r=>MP c n r
def It.ba (n:Int):It->Bool
 |.fl x=>x.ba c n
 |.lv _=>true
 |.once p=>p.ba c n
 |.again p=>p.ba c n
 |.all r=>K7 c n r
def It.nul:It->Bool
 |.lv _=>true
 |.once _=>true
 |.again _=>true
 |_=>false
def fp:List It->Bool
 |[]=>true
 |i :: K=>i.ba c (aQ K) && (!i.nul || fp K)
def OL (n:Int) (z:Bool):List Fl->Bool
 |[]=>z
 |x :: _=>x.ba c n
def IN (n:Int) (z:Bool):List Fl->Bool
 |[]=>true
 |x :: r=>(!x.en c n || OL c n z r) && IN n z r
def O1 (n:Int) (r:List Fl):Bool:=IN c n true r && (MP c n r || IN c n false r)
def M.nod (n:Int):M->Bool
 |.typed=>decide (n=3\/n=7\/n=11)
 |.list=>decide (n=29\/n=31)
 |.factor=>decide (n=24\/n=25\/n=26)
 |_=>true
def Fl.nod (n:Int):Fl->Bool
 |.mt m=>m.nod n
 |_=>true
def Pk.gd (n:Int):Pk->Bool
 |.fn _=>true
 |.row r=>O1 c n r && r.all (Fl.nod n)
 |.ex m=>m.nod n
def It.gd (n:Int):It->Bool
 |.fl x=>x.nod n
 |.lv _=>true
 |.once p=>p.gd c n
 |.again p=>p.gd c n && (!p.en c n || p.ba c n)
 |.all r=>O1 c n r && r.all (Fl.nod n)
def mS:List It->Bool
 |[]=>true
 |i :: K=>i.gd c (aQ K) && (!i.en c (aQ K) || fp c K) && mS K
def Cx (n:Int) (z:Bool):List It->Bool
 |[]=>z
 |i :: r=>i.ba c n && (!i.nul || Cx n z r)
def sE (n:Int) (z:Bool):List It->Bool
 |[]=>true
 |i :: r=>i.gd c n && (!i.en c n || Cx c n z r) && sE n z r
theorem lK (h:bJ r=[]) (K:List It):aQ (r++K)=aQ K:=by
 induction r with
 |nil=>rfl
 |cons i r ih=>
  cases i with
  |lv n=>cases h
  |_=>exact ih h
theorem kZ (h:bJ r=[]) (K:List It):fp c (r++K)=Cx c (aQ K) (fp c K) r:=by
 induction r with
 |nil=>rfl
 |cons i r ih=>
  have h':bJ r=[]:=by cases i <;> first|(cases h;done)|exact h
  show (i.ba c (aQ (r++K)) && (!i.nul || fp c (r++K)))=_
  rw [ih h',lK h'];rfl
theorem sF (h:bJ r=[]) (K:List It):mS c (r++K)=(sE c (aQ K) (fp c K) r && mS c K):=by
 induction r with
 |nil=>rfl
 |cons i r ih=>
  have h':bJ r=[]:=by cases i <;> first|(cases h;done)|exact h
  show (i.gd c (aQ (r++K)) && (!i.en c (aQ (r++K)) || fp c (r++K)) && mS c (r++K))=_
  rw [ih h',lK h',kZ c h'];simp only [sE];rw [Bool.and_assoc,Bool.and_assoc,Bool.and_assoc]
theorem Gp (h:Cx c n z r=true):Cx c n true r=true:=by
 induction r with
 |nil=>rfl
 |cons i r ih=>
  simp only [Cx,Qx,QJ] at h ⊢;exact ⟨h.1,h.2.imp id ih⟩
theorem Eo (h:sE c n false r=true):sE c n z r=true:=by
 cases z with
 |false=>exact h
 |true=>
  induction r with
  |nil=>rfl
  |cons i r ih=>
   simp only [sE,Qx,QJ] at h ⊢;exact ⟨⟨h.1.1,h.1.2.imp id (Gp c)⟩,ih h.2⟩
def Gw.ck (m:M):Gw->Prop
 |.ref=>True
 |.ex r=>∀n,m.nod n=true->sE c n true r=true/\(c.mE m=false->sE c n false r=true)
 |.op nd r=>sE c nd true r=true/\(c.mE m=false->sE c nd false r=true)
structure Cl.Ok:Prop where
 row:∀t m,(M.row t m).ck c m
 dk:∀d t m,Dk.pick t d=some m->c.mE m=true->c.dE d=true
theorem KG {m:M}(h:sE c n true r=true/\(c.mE m=false->sE c n false r=true)) (hz:c.mE m=true->z=true):sE c n z r=true:=by
 cases hm:c.mE m with
 |false=>exact Eo c (h.2 hm)
 |true=>rw [hz hm];exact h.1
theorem Ep (n:Int) (z:Bool):∀r:List Fl,sE c n z (r.map It.fl)=(r.all (Fl.nod n) && IN c n z r)
 |[]=>rfl
 |x :: r=>by
  have e:Cx c n z (r.map It.fl)=OL c n z r:=by
   cases r with
   |nil=>rfl
   |cons y r=>show (y.ba c n && (!false || _))=_;simp [OL]
  show (x.nod n && (!x.en c n || Cx c n z (r.map It.fl)) && sE c n z (r.map It.fl))=(x.nod n && r.all (Fl.nod n) && ((!x.en c n || OL c n z r) && IN c n z r))
  rw [Ep n z r,e];cases x.nod n <;> cases r.all (Fl.nod n) <;> cases (!x.en c n || OL c n z r) <;> rfl
theorem Er {r:List Fl}(h:IN c n false r=true):IN c n z r=true:=by
 cases z with
 |false=>exact h
 |true=>
  induction r with
  |nil=>rfl
  |cons x r ih=>
   simp only [IN,Qx,QJ] at h ⊢;exact ⟨h.1.imp id (fun h=>by cases r with|nil=>rfl|cons y r=>exact h),ih h.2⟩
theorem N6 {r:List Fl}(h:O1 c n r=true) (hz:MP c n r=true->z=true):IN c n z r=true:=by
 simp only [O1,Qx,QJ] at h;cases he:MP c n r with
 |true=>rw [hz he];exact h.1
 |false=>
  rcases h.2 with h2|h2
  ·rw [he] at h2;cases h2
  ·exact Er c h2
theorem zl {hc:c.Ok}(h:Pk.pick t p=some j) (n:Int):j.en c n=true->p.en c n=true:=by
 cases p with
 |fn d=>
  simp only [Pk.pick,QT] at h;obtain ⟨m,hm,rfl⟩:=h;exact fun e=>hc.dk d t m hm e
 |row r=>
  simp only [Pk.pick] at h
  split at h
  ·cases h;exact id
  ·cases h
 |ex m=>
  simp only [Pk.pick] at h
  split at h
  ·cases h
  ·cases h;exact id
theorem zk (h:Pk.pick t p=some j) {n:Int}(hg:p.gd c n=true):j.gd c n=true:=by
 cases p with
 |fn d=>
  simp only [Pk.pick,QT] at h;obtain ⟨m,hm,rfl⟩:=h
  rcases oa hm with rfl|rfl|rfl|rfl|rfl|rfl|rfl <;> rfl
 |row r=>
  simp only [Pk.pick] at h
  split at h
  ·cases h;exact hg
  ·cases h
 |ex m=>
  simp only [Pk.pick] at h
  split at h
  ·cases h
  ·cases h;exact hg
theorem Do (hc:c.Ok) {t:Tv}{i:It}{d:Int}{o:List Ev}{r K:List It}(h:It.step t i=.go d o r) (hk:mS c (i :: K)=true):mS c (r++K)=true:=by
 have hk0:=hk;simp only [mS,Qx,QJ,Sk] at hk;obtain ⟨⟨hg,he⟩,hK⟩:=hk;cases i with
 |fl x=>
  have hm:∃m,x=.mt m:=by
   cases x with
   |mt m=>exact ⟨m,rfl⟩
   |_=>simp only [It.step,Fl.step] at h;split at h <;> cases h
  obtain ⟨m,rfl⟩:=hm;have hr:=gZ t m;have hck:=hc.row t m;have hz:c.mE m=true->fp c K=true:=fun e=>he.elim (fun e1=>by rw [show (It.fl (.mt m)).en c (aQ K)=c.mE m from rfl,e] at e1;cases e1) id
  simp only [It.step,Fl.step] at h;cases hrow:M.row t m with
  |ref=>rw [hrow] at h;cases h
  |ex r'=>
   rw [hrow] at h hr hck;cases h;rw [sF c hr.2.2,hK,UR];exact KG c (hck (aQ K) hg) hz
  |op nd r'=>
   rw [hrow] at h hr hck;cases h;rw [Qz,sF c hr.2.2.1]
   have e1:mS c ([It.lv nd]++K)=true:=by
    show (true && (!false || _) && mS c K)=true
    simp [hK]
   have e2:aQ ([It.lv nd]++K)=nd:=rfl;have e3:fp c ([It.lv nd]++K)=fp c K:=by show (true && (!true || _))=_;simp
   rw [e1,e2,e3,UR];exact KG c hck hz
 |lv n=>cases h;exact hK
 |once p=>
  simp only [It.step] at h;cases hp:Pk.pick t p with
  |none=>rw [hp] at h;cases h;exact hK
  |some j=>
   rw [hp] at h;cases h;show mS c (j :: K)=true;simp only [mS,Qx,QJ,Sk];refine ⟨⟨zk c hp hg,?_⟩,hK⟩;cases hj:j.en c (aQ K) with
   |false=>exact .inl rfl
   |true=>
    have:=zl c (hc:=hc) hp _ hj
    rcases he with he|he
    ·rw [show (It.once p).en c (aQ K)=p.en c (aQ K) from rfl,this] at he;cases he
    ·exact .inr he
 |again p=>
  simp only [It.step] at h;cases hp:Pk.pick t p with
  |none=>rw [hp] at h;cases h;exact hK
  |some j=>
   rw [hp] at h;cases h;show mS c (j :: (.again p :: K))=true;rw [mS,hk0,UR];have en:aQ (.again p :: K)=aQ K:=rfl;rw [en];simp only [Qx,QJ,Sk];simp only [It.gd,Qx,QJ,Sk] at hg;refine ⟨zk c hp hg.1,?_⟩;cases hj:j.en c (aQ K) with
   |false=>exact .inl rfl
   |true=>
    have h1:=zl c (hc:=hc) hp _ hj;refine .inr ?_
    have h2:fp c K=true:=by
     rcases he with he|he
     ·rw [show (It.again p).en c (aQ K)=p.en c (aQ K) from rfl,h1] at he;cases he
     ·exact he
    have h3:p.ba c (aQ K)=true:=hg.2.elim (fun e=>by rw [h1] at e;cases e) id;show (p.ba c (aQ K) && (!true || fp c K))=true;rw [h3,h2];rfl
 |all r'=>
  cases h;simp only [It.gd,Qx] at hg;rw [sF c (jU r'),hK,UR,Ep,hg.2,RC];refine N6 c hg.1 (fun e=>?_)
  rcases he with he|he
  ·rw [show (It.all r').en c (aQ K)=MP c (aQ K) r' from rfl,e] at he;cases he
  ·exact he
end Go.Proofs.YtacohdpndpliaaaGreatDoor
