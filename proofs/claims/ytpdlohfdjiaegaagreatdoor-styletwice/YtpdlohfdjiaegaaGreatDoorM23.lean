import Derived.Test.YtpdlohfdjiaegaaGreatDoorM22
set_option linter.unusedVariables false
set_option linter.unusedSimpArgs false
namespace Go.Proofs.YtpdlohfdjiaegaaGreatDoor
open Go.RowKit
variable {r:List It}{n:Int}{z:Bool}{t:Tv}{p:Pk}{j:It}
structure Cl where
 tE:Int->Int->ByteArray->Bool
 tB:Int->Int->ByteArray->Bool
 nE:Bool
 nB:Bool
 mE:M->Bool
 mB:M->Bool
 dE:Dk->Bool
 dB:Dk->Bool
 xB:Int->M->Bool
variable (c:Cl)
def aE:List It->Int
 |[]=>0
 |.lv n :: _=>n
 |_ :: K=>aE K
def Fl.en (n:Int):Fl->Bool
 |.wd k ts=>ts.any (c.tE n k)
 |.mt m=>c.mE m
 |_=>c.nE
def Fl.ba (n:Int):Fl->Bool
 |.wd k ts=>ts.all (c.tB n k)
 |.mt m=>c.mB m
 |_=>c.nB
def enL (n:Int):List Fl->Bool
 |[]=>false
 |[x]=>x.en c n
 |_ :: r=>enL n r
def baH (n:Int):List Fl->Bool
 |[]=>false
 |x :: _=>x.ba c n
def Pk.en (n:Int):Pk->Bool
 |.fn d=>c.dE d
 |.row r=>enL c n r
 |.ex m=>c.mE m
def Pk.ba (n:Int):Pk->Bool
 |.fn d=>c.dB d
 |.row r=>baH c n r
 |.ex m=>c.xB n m
def It.en (n:Int):It->Bool
 |.fl x=>x.en c n
 |.lv _=>false
 |.once p=>p.en c n
 |.again p=>p.en c n
 |.all r=>enL c n r
def It.ba (n:Int):It->Bool
 |.fl x=>x.ba c n
 |.lv _=>true
 |.once p=>p.ba c n
 |.again p=>p.ba c n
 |.all r=>baH c n r
def It.nul:It->Bool
 |.lv _=>true
 |.once _=>true
 |.again _=>true
 |_=>false
def dr:List It->Bool
 |[]=>true
 |i :: K=>i.ba c (aE K) && (!i.nul || dr K)
def baF (n:Int) (z:Bool):List Fl->Bool
 |[]=>z
 |x :: _=>x.ba c n
def okF (n:Int) (z:Bool):List Fl->Bool
 |[]=>true
 |x :: r=>(!x.en c n || baF c n z r) && okF n z r
def rkF (n:Int) (r:List Fl):Bool:=okF c n true r && (enL c n r || okF c n false r)
def M.nod (n:Int):M->Bool
 |.typed=>decide (n=3\/n=7\/n=11)
 |.list=>decide (n=29\/n=31)
 |.factor=>decide (n=24\/n=25\/n=26)
 |_=>true
def Fl.nod (n:Int):Fl->Bool
 |.mt m=>m.nod n
 |_=>true
def Pk.gd (n:Int):Pk->Bool
 |.fn _=>true
 |.row r=>rkF c n r && r.all (Fl.nod n)
 |.ex m=>m.nod n
def It.gd (n:Int):It->Bool
 |.fl x=>x.nod n
 |.lv _=>true
 |.once p=>p.gd c n
 |.again p=>p.gd c n && (!p.en c n || p.ba c n)
 |.all r=>rkF c n r && r.all (Fl.nod n)
def okK:List It->Bool
 |[]=>true
 |i :: K=>i.gd c (aE K) && (!i.en c (aE K) || dr c K) && okK K
def baR (n:Int) (z:Bool):List It->Bool
 |[]=>z
 |i :: r=>i.ba c n && (!i.nul || baR n z r)
def okR (n:Int) (z:Bool):List It->Bool
 |[]=>true
 |i :: r=>i.gd c n && (!i.en c n || baR c n z r) && okR n z r
theorem ij (h:lvs r=[]) (K:List It):aE (r++K)=aE K:=by
 induction r with
 |nil=>rfl
 |cons i r ih=>
  cases i with
  |lv n=>cases h
  |_=>exact ih h
theorem gQ (h:lvs r=[]) (K:List It):dr c (r++K)=baR c (aE K) (dr c K) r:=by
 induction r with
 |nil=>rfl
 |cons i r ih=>
  have h':lvs r=[]:=by cases i <;> first|(cases h;done)|exact h
  show (i.ba c (aE (r++K)) && (!i.nul || dr c (r++K)))=_
  rw [ih h',ij h'];rfl
theorem lJ (h:lvs r=[]) (K:List It):okK c (r++K)=(okR c (aE K) (dr c K) r && okK c K):=by
 induction r with
 |nil=>rfl
 |cons i r ih=>
  have h':lvs r=[]:=by cases i <;> first|(cases h;done)|exact h
  show (i.gd c (aE (r++K)) && (!i.en c (aE (r++K)) || dr c (r++K)) && okK c (r++K))=_
  rw [ih h',ij h',gQ c h'];simp only [okR];rw [Bool.and_assoc,Bool.and_assoc,Bool.and_assoc]
theorem wW (h:baR c n z r=true):baR c n true r=true:=by
 induction r with
 |nil=>rfl
 |cons i r ih=>
  simp only [baR,Bool.and_eq_true,Bool.or_eq_true] at h ⊢;exact ⟨h.1,h.2.imp id ih⟩
theorem vj (h:okR c n false r=true):okR c n z r=true:=by
 cases z with
 |false=>exact h
 |true=>
  induction r with
  |nil=>rfl
  |cons i r ih=>
   simp only [okR,Bool.and_eq_true,Bool.or_eq_true] at h ⊢;exact ⟨⟨h.1.1,h.1.2.imp id (wW c)⟩,ih h.2⟩
def Gw.ck (m:M):Gw->Prop
 |.ref=>True
 |.ex r=>∀n,m.nod n=true->okR c n true r=true/\(c.mE m=false->okR c n false r=true)
 |.op nd r=>okR c nd true r=true/\(c.mE m=false->okR c nd false r=true)
structure Cl.Ok:Prop where
 row:∀t m,(M.row t m).ck c m
 dk:∀d t m,Dk.pick t d=some m->c.mE m=true->c.dE d=true
theorem zJ {m:M}(h:okR c n true r=true/\(c.mE m=false->okR c n false r=true)) (hz:c.mE m=true->z=true):okR c n z r=true:=by
 cases hm:c.mE m with
 |false=>exact vj c (h.2 hm)
 |true=>rw [hz hm];exact h.1
theorem vk (n:Int) (z:Bool):∀r:List Fl,okR c n z (r.map It.fl)=(r.all (Fl.nod n) && okF c n z r)
 |[]=>rfl
 |x :: r=>by
  have e:baR c n z (r.map It.fl)=baF c n z r:=by
   cases r with
   |nil=>rfl
   |cons y r=>show (y.ba c n && (!false || _))=_;simp [baF]
  show (x.nod n && (!x.en c n || baR c n z (r.map It.fl)) && okR c n z (r.map It.fl))=(x.nod n && r.all (Fl.nod n) && ((!x.en c n || baF c n z r) && okF c n z r))
  rw [vk n z r,e];cases x.nod n <;> cases r.all (Fl.nod n) <;> cases (!x.en c n || baF c n z r) <;> rfl
theorem vl {r:List Fl}(h:okF c n false r=true):okF c n z r=true:=by
 cases z with
 |false=>exact h
 |true=>
  induction r with
  |nil=>rfl
  |cons x r ih=>
   simp only [okF,Bool.and_eq_true,Bool.or_eq_true] at h ⊢;exact ⟨h.1.imp id (fun h=>by cases r with|nil=>rfl|cons y r=>exact h),ih h.2⟩
theorem Ca {r:List Fl}(h:rkF c n r=true) (hz:enL c n r=true->z=true):okF c n z r=true:=by
 simp only [rkF,Bool.and_eq_true,Bool.or_eq_true] at h;cases he:enL c n r with
 |true=>rw [hz he];exact h.1
 |false=>
  rcases h.2 with h2|h2
  ·rw [he] at h2;cases h2
  ·exact vl c h2
theorem qF {hc:c.Ok}(h:Pk.pick t p=some j) (n:Int):j.en c n=true->p.en c n=true:=by
 cases p with
 |fn d=>
  simp only [Pk.pick,Option.map_eq_some_iff] at h;obtain ⟨m,hm,rfl⟩:=h;exact fun e=>hc.dk d t m hm e
 |row r=>
  simp only [Pk.pick] at h
  split at h
  ·cases h;exact id
  ·cases h
 |ex m=>
  simp only [Pk.pick] at h
  split at h
  ·cases h
  ·cases h;exact id
theorem qE (h:Pk.pick t p=some j) {n:Int}(hg:p.gd c n=true):j.gd c n=true:=by
 cases p with
 |fn d=>
  simp only [Pk.pick,Option.map_eq_some_iff] at h;obtain ⟨m,hm,rfl⟩:=h
  rcases mc hm with rfl|rfl|rfl|rfl|rfl|rfl|rfl <;> rfl
 |row r=>
  simp only [Pk.pick] at h
  split at h
  ·cases h;exact hg
  ·cases h
 |ex m=>
  simp only [Pk.pick] at h
  split at h
  ·cases h
  ·cases h;exact hg
theorem uk (hc:c.Ok) {t:Tv}{i:It}{d:Int}{o:List Ev}{r K:List It}(h:It.step t i=.go d o r) (hk:okK c (i :: K)=true):okK c (r++K)=true:=by
 have hk0:=hk;simp only [okK,Bool.and_eq_true,Bool.or_eq_true,Bool.not_eq_true'] at hk;obtain ⟨⟨hg,he⟩,hK⟩:=hk;cases i with
 |fl x=>
  have hm:∃m,x=.mt m:=by
   cases x with
   |mt m=>exact ⟨m,rfl⟩
   |_=>simp only [It.step,Fl.step] at h;split at h <;> cases h
  obtain ⟨m,rfl⟩:=hm;have hr:=ib t m;have hck:=hc.row t m;have hz:c.mE m=true->dr c K=true:=fun e=>he.elim (fun e1=>by rw [show (It.fl (.mt m)).en c (aE K)=c.mE m from rfl,e] at e1;cases e1) id
  simp only [It.step,Fl.step] at h;cases hrow:M.row t m with
  |ref=>rw [hrow] at h;cases h
  |ex r'=>
   rw [hrow] at h hr hck;cases h;rw [lJ c hr.2.2,hK,Bool.and_true];exact zJ c (hck (aE K) hg) hz
  |op nd r'=>
   rw [hrow] at h hr hck;cases h;rw [List.append_assoc,lJ c hr.2.2.1]
   have e1:okK c ([It.lv nd]++K)=true:=by
    show (true && (!false || _) && okK c K)=true
    simp [hK]
   have e2:aE ([It.lv nd]++K)=nd:=rfl;have e3:dr c ([It.lv nd]++K)=dr c K:=by show (true && (!true || _))=_;simp
   rw [e1,e2,e3,Bool.and_true];exact zJ c hck hz
 |lv n=>cases h;exact hK
 |once p=>
  simp only [It.step] at h;cases hp:Pk.pick t p with
  |none=>rw [hp] at h;cases h;exact hK
  |some j=>
   rw [hp] at h;cases h;show okK c (j :: K)=true;simp only [okK,Bool.and_eq_true,Bool.or_eq_true,Bool.not_eq_true'];refine ⟨⟨qE c hp hg,?_⟩,hK⟩;cases hj:j.en c (aE K) with
   |false=>exact .inl rfl
   |true=>
    have:=qF c (hc:=hc) hp _ hj
    rcases he with he|he
    ·rw [show (It.once p).en c (aE K)=p.en c (aE K) from rfl,this] at he;cases he
    ·exact .inr he
 |again p=>
  simp only [It.step] at h;cases hp:Pk.pick t p with
  |none=>rw [hp] at h;cases h;exact hK
  |some j=>
   rw [hp] at h;cases h;show okK c (j :: (.again p :: K))=true;rw [okK,hk0,Bool.and_true];have en:aE (.again p :: K)=aE K:=rfl;rw [en];simp only [Bool.and_eq_true,Bool.or_eq_true,Bool.not_eq_true'];simp only [It.gd,Bool.and_eq_true,Bool.or_eq_true,Bool.not_eq_true'] at hg;refine ⟨qE c hp hg.1,?_⟩;cases hj:j.en c (aE K) with
   |false=>exact .inl rfl
   |true=>
    have h1:=qF c (hc:=hc) hp _ hj;refine .inr ?_
    have h2:dr c K=true:=by
     rcases he with he|he
     ·rw [show (It.again p).en c (aE K)=p.en c (aE K) from rfl,h1] at he;cases he
     ·exact he
    have h3:p.ba c (aE K)=true:=hg.2.elim (fun e=>by rw [h1] at e;cases e) id;show (p.ba c (aE K) && (!true || dr c K))=true;rw [h3,h2];rfl
 |all r'=>
  cases h;simp only [It.gd,Bool.and_eq_true] at hg;rw [lJ c (il r'),hK,Bool.and_true,vk,hg.2,Bool.true_and];refine Ca c hg.1 (fun e=>?_)
  rcases he with he|he
  ·rw [show (It.all r').en c (aE K)=enL c (aE K) r' from rfl,e] at he;cases he
  ·exact he
end Go.Proofs.YtpdlohfdjiaegaaGreatDoor
