import Derived.Test.YtnljjdhodelhdaaGreatDoorM17
set_option linter.unusedVariables false
set_option linter.unusedSimpArgs false
namespace Go.Proofs.YtnljjdhodelhdaaGreatDoor
open Go.RowKit
variable {r:List It}{n:Int}{z:Bool}{t:Tv}{p:Pk}{j:It}
structure Cl where
 tE:Int->Int->ByteArray->Bool
 tB:Int->Int->ByteArray->Bool
 nE:Bool
 nB:Bool
 mE:M->Bool
 mB:M->Bool
 dE:Dk->Bool
 dB:Dk->Bool
 xB:Int->M->Bool
variable (c:Cl)
def aR:List It->Int
 |[]=>0
 |.lv n :: _=>n
 |_ :: K=>aR K
def Fl.en (n:Int):Fl->Bool
 |.wd k ts=>ts.any (c.tE n k)
 |.mt m=>c.mE m
 |_=>c.nE
def Fl.ba (n:Int):Fl->Bool
 |.wd k ts=>ts.all (c.tB n k)
 |.mt m=>c.mB m
 |_=>c.nB
def Nh (n:Int):List Fl->Bool
 |[]=>false
 |[x]=>x.en c n
 |_ :: r=>Nh n r
def LB (n:Int):List Fl->Bool
 |[]=>false
 |x :: _=>x.ba c n
def Pk.en (n:Int):Pk->Bool
 |.fn d=>c.dE d
 |.row r=>Nh c n r
 |.ex m=>c.mE m
def Pk.ba (n:Int):Pk->Bool
 |.fn d=>c.dB d
 |.row r=>LB c n r
 |.ex m=>c.xB n m
def It.en (n:Int):It->Bool
 |.fl x=>x.en c n
 |.lv _=>false
 |.once p=>p.en c n
 |.again p=>p.en c n
 |.all r=>Nh c n r
def It.ba (n:Int):It->Bool
 |.fl x=>x.ba c n
 |.lv _=>true
 |.once p=>p.ba c n
 |.again p=>p.ba c n
 |.all r=>LB c n r
def It.nul:It->Bool
 |.lv _=>true
 |.once _=>true
 |.again _=>true
 |_=>false
def fu:List It->Bool
 |[]=>true
 |i :: K=>i.ba c (aR K) && (!i.nul || fu K)
def Pc (n:Int) (z:Bool):List Fl->Bool
 |[]=>z
 |x :: _=>x.ba c n
def Jg (n:Int) (z:Bool):List Fl->Bool
 |[]=>true
 |x :: r=>(!x.en c n || Pc c n z r) && Jg n z r
def Pw (n:Int) (r:List Fl):Bool:=Jg c n true r && (Nh c n r || Jg c n false r)
def M.nod (n:Int):M->Bool
 |.typed=>decide (n=3\/n=7\/n=11)
 |.list=>decide (n=29\/n=31)
 |.factor=>decide (n=24\/n=25\/n=26)
 |_=>true
def Fl.nod (n:Int):Fl->Bool
 |.mt m=>m.nod n
 |_=>true
def Pk.gd (n:Int):Pk->Bool
 |.fn _=>true
 |.row r=>Pw c n r && r.all (Fl.nod n)
 |.ex m=>m.nod n
def It.gd (n:Int):It->Bool
 |.fl x=>x.nod n
 |.lv _=>true
 |.once p=>p.gd c n
 |.again p=>p.gd c n && (!p.en c n || p.ba c n)
 |.all r=>Pw c n r && r.all (Fl.nod n)
def mP:List It->Bool
 |[]=>true
 |i :: K=>i.gd c (aR K) && (!i.en c (aR K) || fu c K) && mP K
def CI (n:Int) (z:Bool):List It->Bool
 |[]=>z
 |i :: r=>i.ba c n && (!i.nul || CI n z r)
def sy (n:Int) (z:Bool):List It->Bool
 |[]=>true
 |i :: r=>i.gd c n && (!i.en c n || CI c n z r) && sy n z r
theorem lH (h:bM r=[]) (K:List It):aR (r++K)=aR K:=by
 induction r with
 |nil=>rfl
 |cons i r ih=>
  cases i with
  |lv n=>cases h
  |_=>exact ih h
theorem kW (h:bM r=[]) (K:List It):fu c (r++K)=CI c (aR K) (fu c K) r:=by
 induction r with
 |nil=>rfl
 |cons i r ih=>
  have h':bM r=[]:=by cases i <;> first|(cases h;done)|exact h
  show (i.ba c (aR (r++K)) && (!i.nul || fu c (r++K)))=_
  rw [ih h',lH h'];rfl
theorem sA (h:bM r=[]) (K:List It):mP c (r++K)=(sy c (aR K) (fu c K) r && mP c K):=by
 induction r with
 |nil=>rfl
 |cons i r ih=>
  have h':bM r=[]:=by cases i <;> first|(cases h;done)|exact h
  show (i.gd c (aR (r++K)) && (!i.en c (aR (r++K)) || fu c (r++K)) && mP c (r++K))=_
  rw [ih h',lH h',kW c h'];simp only [sy];rw [Bool.and_assoc,Bool.and_assoc,Bool.and_assoc]
theorem GE (h:CI c n z r=true):CI c n true r=true:=by
 induction r with
 |nil=>rfl
 |cons i r ih=>
  simp only [CI,Q1,Ri] at h ⊢;exact ⟨h.1,h.2.imp id ih⟩
theorem Ey (h:sy c n false r=true):sy c n z r=true:=by
 cases z with
 |false=>exact h
 |true=>
  induction r with
  |nil=>rfl
  |cons i r ih=>
   simp only [sy,Q1,Ri] at h ⊢;exact ⟨⟨h.1.1,h.1.2.imp id (GE c)⟩,ih h.2⟩
def Gw.ck (m:M):Gw->Prop
 |.ref=>True
 |.ex r=>∀n,m.nod n=true->sy c n true r=true/\(c.mE m=false->sy c n false r=true)
 |.op nd r=>sy c nd true r=true/\(c.mE m=false->sy c nd false r=true)
structure Cl.Ok:Prop where
 row:∀t m,(M.row t m).ck c m
 dk:∀d t m,Dk.pick t d=some m->c.mE m=true->c.dE d=true
theorem KZ {m:M}(h:sy c n true r=true/\(c.mE m=false->sy c n false r=true)) (hz:c.mE m=true->z=true):sy c n z r=true:=by
 cases hm:c.mE m with
 |false=>exact Ey c (h.2 hm)
 |true=>rw [hz hm];exact h.1
theorem Ez (n:Int) (z:Bool):∀r:List Fl,sy c n z (r.map It.fl)=(r.all (Fl.nod n) && Jg c n z r)
 |[]=>rfl
 |x :: r=>by
  have e:CI c n z (r.map It.fl)=Pc c n z r:=by
   cases r with
   |nil=>rfl
   |cons y r=>show (y.ba c n && (!false || _))=_;simp [Pc]
  show (x.nod n && (!x.en c n || CI c n z (r.map It.fl)) && sy c n z (r.map It.fl))=(x.nod n && r.all (Fl.nod n) && ((!x.en c n || Pc c n z r) && Jg c n z r))
  rw [Ez n z r,e];cases x.nod n <;> cases r.all (Fl.nod n) <;> cases (!x.en c n || Pc c n z r) <;> rfl
theorem EA {r:List Fl}(h:Jg c n false r=true):Jg c n z r=true:=by
 cases z with
 |false=>exact h
 |true=>
  induction r with
  |nil=>rfl
  |cons x r ih=>
   simp only [Jg,Q1,Ri] at h ⊢;exact ⟨h.1.imp id (fun h=>by cases r with|nil=>rfl|cons y r=>exact h),ih h.2⟩
theorem OB {r:List Fl}(h:Pw c n r=true) (hz:Nh c n r=true->z=true):Jg c n z r=true:=by
 simp only [Pw,Q1,Ri] at h;cases he:Nh c n r with
 |true=>rw [hz he];exact h.1
 |false=>
  rcases h.2 with h2|h2
  ·rw [he] at h2;cases h2
  ·exact EA c h2
theorem zx {hc:c.Ok}(h:Pk.pick t p=some j) (n:Int):j.en c n=true->p.en c n=true:=by
 cases p with
 |fn d=>
  simp only [Pk.pick,Rv] at h;obtain ⟨m,hm,rfl⟩:=h;exact fun e=>hc.dk d t m hm e
 |row r=>
  simp only [Pk.pick] at h
  split at h
  ·cases h;exact id
  ·cases h
 |ex m=>
  simp only [Pk.pick] at h
  split at h
  ·cases h
  ·cases h;exact id
theorem zw (h:Pk.pick t p=some j) {n:Int}(hg:p.gd c n=true):j.gd c n=true:=by
 cases p with
 |fn d=>
  simp only [Pk.pick,Rv] at h;obtain ⟨m,hm,rfl⟩:=h
  rcases nT hm with rfl|rfl|rfl|rfl|rfl|rfl|rfl <;> rfl
 |row r=>
  simp only [Pk.pick] at h
  split at h
  ·cases h;exact hg
  ·cases h
 |ex m=>
  simp only [Pk.pick] at h
  split at h
  ·cases h
  ·cases h;exact hg
theorem Dv (hc:c.Ok) {t:Tv}{i:It}{d:Int}{o:List Ev}{r K:List It}(h:It.step t i=.go d o r) (hk:mP c (i :: K)=true):mP c (r++K)=true:=by
 have hk0:=hk;simp only [mP,Q1,Ri,Ta] at hk;obtain ⟨⟨hg,he⟩,hK⟩:=hk;cases i with
 |fl x=>
  have hm:∃m,x=.mt m:=by
   cases x with
   |mt m=>exact ⟨m,rfl⟩
   |_=>simp only [It.step,Fl.step] at h;split at h <;> cases h
  obtain ⟨m,rfl⟩:=hm;have hr:=gX t m;have hck:=hc.row t m;have hz:c.mE m=true->fu c K=true:=fun e=>he.elim (fun e1=>by rw [show (It.fl (.mt m)).en c (aR K)=c.mE m from rfl,e] at e1;cases e1) id
  simp only [It.step,Fl.step] at h;cases hrow:M.row t m with
  |ref=>rw [hrow] at h;cases h
  |ex r'=>
   rw [hrow] at h hr hck;cases h;rw [sA c hr.2.2,hK,Vi];exact KZ c (hck (aR K) hg) hz
  |op nd r'=>
   rw [hrow] at h hr hck;cases h;rw [QW,sA c hr.2.2.1]
   have e1:mP c ([It.lv nd]++K)=true:=by
    show (true && (!false || _) && mP c K)=true
    simp [hK]
   have e2:aR ([It.lv nd]++K)=nd:=rfl;have e3:fu c ([It.lv nd]++K)=fu c K:=by show (true && (!true || _))=_;simp
   rw [e1,e2,e3,Vi];exact KZ c hck hz
 |lv n=>cases h;exact hK
 |once p=>
  simp only [It.step] at h;cases hp:Pk.pick t p with
  |none=>rw [hp] at h;cases h;exact hK
  |some j=>
   rw [hp] at h;cases h;show mP c (j :: K)=true;simp only [mP,Q1,Ri,Ta];refine ⟨⟨zw c hp hg,?_⟩,hK⟩;cases hj:j.en c (aR K) with
   |false=>exact .inl rfl
   |true=>
    have:=zx c (hc:=hc) hp _ hj
    rcases he with he|he
    ·rw [show (It.once p).en c (aR K)=p.en c (aR K) from rfl,this] at he;cases he
    ·exact .inr he
 |again p=>
  simp only [It.step] at h;cases hp:Pk.pick t p with
  |none=>rw [hp] at h;cases h;exact hK
  |some j=>
   rw [hp] at h;cases h;show mP c (j :: (.again p :: K))=true;rw [mP,hk0,Vi];have en:aR (.again p :: K)=aR K:=rfl;rw [en];simp only [Q1,Ri,Ta];simp only [It.gd,Q1,Ri,Ta] at hg;refine ⟨zw c hp hg.1,?_⟩;cases hj:j.en c (aR K) with
   |false=>exact .inl rfl
   |true=>
    have h1:=zx c (hc:=hc) hp _ hj;refine .inr ?_
    have h2:fu c K=true:=by
     rcases he with he|he
     ·rw [show (It.again p).en c (aR K)=p.en c (aR K) from rfl,h1] at he;cases he
     ·exact he
    have h3:p.ba c (aR K)=true:=hg.2.elim (fun e=>by rw [h1] at e;cases e) id;show (p.ba c (aR K) && (!true || fu c K))=true;rw [h3,h2];rfl
 |all r'=>
  cases h;simp only [It.gd,Q1] at hg;rw [sA c (jU r'),hK,Vi,Ez,hg.2,R6];refine OB c hg.1 (fun e=>?_)
  rcases he with he|he
  ·rw [show (It.all r').en c (aR K)=Nh c (aR K) r' from rfl,e] at he;cases he
  ·exact he
end Go.Proofs.YtnljjdhodelhdaaGreatDoor
