import Derived.Test.YtcjiapphbpiffaaGreatDoorM18
set_option linter.unusedVariables false
set_option linter.unusedSimpArgs false
namespace Go.Proofs.YtcjiapphbpiffaaGreatDoor
open Go.RowKit
variable {r:List It}{n:Int}{z:Bool}{t:Tv}{p:Pk}{j:It}
structure Cl where
 tE:Int->Int->ByteArray->Bool
 tB:Int->Int->ByteArray->Bool
 nE:Bool
 nB:Bool
 mE:M->Bool
 mB:M->Bool
 dE:Dk->Bool
 dB:Dk->Bool
 xB:Int->M->Bool
variable (c:Cl)
def aS:List It->Int
 |[]=>0
 |.lv n :: _=>n
 |_ :: K=>aS K
def Fl.en (n:Int):Fl->Bool
 |.wd k ts=>ts.any (c.tE n k)
 |.mt m=>c.mE m
 |_=>c.nE
def Fl.ba (n:Int):Fl->Bool
 |.wd k ts=>ts.all (c.tB n k)
 |.mt m=>c.mB m
 |_=>c.nB
def OD (n:Int):List Fl->Bool
 |[]=>false
 |[x]=>x.en c n
 |_ :: r=>OD n r
def MO (n:Int):List Fl->Bool
 |[]=>false
 |x :: _=>x.ba c n
def Pk.en (n:Int):Pk->Bool
 |.fn d=>c.dE d
 |.row r=>OD c n r
 |.ex m=>c.mE m
def Pk.ba (n:Int):Pk->Bool
 |.fn d=>c.dB d
 |.row r=>MO c n r
 |.ex m=>c.xB n m
def It.en (n:Int):It->Bool
 |.fl x=>x.en c n
 |.lv _=>false
 |.once p=>p.en c n
 |.again p=>p.en c n
 |.all r=>OD c n r
def It.ba (n:Int):It->Bool
 |.fl x=>x.ba c n
 |.lv _=>true
 |.once p=>p.ba c n
 |.again p=>p.ba c n
 |.all r=>MO c n r
def It.nul:It->Bool
 |.lv _=>true
 |.once _=>true
 |.again _=>true
 |_=>false
def fF:List It->Bool
 |[]=>true
 |i :: K=>i.ba c (aS K) && (!i.nul || fF K)
def QF (n:Int) (z:Bool):List Fl->Bool
 |[]=>z
 |x :: _=>x.ba c n
def Kf (n:Int) (z:Bool):List Fl->Bool
 |[]=>true
 |x :: r=>(!x.en c n || QF c n z r) && Kf n z r
def QV (n:Int) (r:List Fl):Bool:=Kf c n true r && (OD c n r || Kf c n false r)
def M.nod (n:Int):M->Bool
 |.typed=>decide (n=3\/n=7\/n=11)
 |.list=>decide (n=29\/n=31)
 |.factor=>decide (n=24\/n=25\/n=26)
 |_=>true
def Fl.nod (n:Int):Fl->Bool
 |.mt m=>m.nod n
 |_=>true
def Pk.gd (n:Int):Pk->Bool
 |.fn _=>true
 |.row r=>QV c n r && r.all (Fl.nod n)
 |.ex m=>m.nod n
def It.gd (n:Int):It->Bool
 |.fl x=>x.nod n
 |.lv _=>true
 |.once p=>p.gd c n
 |.again p=>p.gd c n && (!p.en c n || p.ba c n)
 |.all r=>QV c n r && r.all (Fl.nod n)
def ng:List It->Bool
 |[]=>true
 |i :: K=>i.gd c (aS K) && (!i.en c (aS K) || fF c K) && ng K
def DJ (n:Int) (z:Bool):List It->Bool
 |[]=>z
 |i :: r=>i.ba c n && (!i.nul || DJ n z r)
def tf (n:Int) (z:Bool):List It->Bool
 |[]=>true
 |i :: r=>i.gd c n && (!i.en c n || DJ c n z r) && tf n z r
theorem lX (h:bM r=[]) (K:List It):aS (r++K)=aS K:=by
 induction r with
 |nil=>rfl
 |cons i r ih=>
  cases i with
  |lv n=>cases h
  |_=>exact ih h
theorem lu (h:bM r=[]) (K:List It):fF c (r++K)=DJ c (aS K) (fF c K) r:=by
 induction r with
 |nil=>rfl
 |cons i r ih=>
  have C:bM r=[]:=by cases i <;> first|(cases h;done)|exact h
  show (i.ba c (aS (r++K)) && (!i.nul || fF c (r++K)))=_
  rw [ih C,lX C];rfl
theorem tg (h:bM r=[]) (K:List It):ng c (r++K)=(tf c (aS K) (fF c K) r && ng c K):=by
 induction r with
 |nil=>rfl
 |cons i r ih=>
  have C:bM r=[]:=by cases i <;> first|(cases h;done)|exact h
  show (i.gd c (aS (r++K)) && (!i.en c (aS (r++K)) || fF c (r++K)) && ng c (r++K))=_
  rw [ih C,lX C,lu c C];simp only [tf];rw [Bool.and_assoc,Bool.and_assoc,Bool.and_assoc]
theorem Ii (h:DJ c n z r=true):DJ c n true r=true:=by
 induction r with
 |nil=>rfl
 |cons i r ih=>
  simp only [DJ,Tc,Th] at h ⊢;exact ⟨h.1,h.2.imp id ih⟩
theorem FD (h:tf c n false r=true):tf c n z r=true:=by
 cases z with
 |false=>exact h
 |true=>
  induction r with
  |nil=>rfl
  |cons i r ih=>
   simp only [tf,Tc,Th] at h ⊢;exact ⟨⟨h.1.1,h.1.2.imp id (Ii c)⟩,ih h.2⟩
def Gw.ck (m:M):Gw->Prop
 |.ref=>True
 |.ex r=>∀n,m.nod n=true->tf c n true r=true/\(c.mE m=false->tf c n false r=true)
 |.op nd r=>tf c nd true r=true/\(c.mE m=false->tf c nd false r=true)
structure Cl.Ok:Prop where
 row:∀t m,(M.row t m).ck c m
 dk:∀d t m,Dk.pick t d=some m->c.mE m=true->c.dE d=true
theorem Mm {m:M}(h:tf c n true r=true/\(c.mE m=false->tf c n false r=true)) (F:c.mE m=true->z=true):tf c n z r=true:=by
 cases C:c.mE m with
 |false=>exact FD c (h.2 C)
 |true=>rw [F C];exact h.1
theorem FE (n:Int) (z:Bool):∀r:List Fl,tf c n z (r.map It.fl)=(r.all (Fl.nod n) && Kf c n z r)
 |[]=>rfl
 |x :: r=>by
  have e:DJ c n z (r.map It.fl)=QF c n z r:=by
   cases r with
   |nil=>rfl
   |cons y r=>show (y.ba c n && (!false || _))=_;simp [QF]
  show (x.nod n && (!x.en c n || DJ c n z (r.map It.fl)) && tf c n z (r.map It.fl))=(x.nod n && r.all (Fl.nod n) && ((!x.en c n || QF c n z r) && Kf c n z r))
  rw [FE n z r,e];cases x.nod n <;> cases r.all (Fl.nod n) <;> cases (!x.en c n || QF c n z r) <;> rfl
theorem FF {r:List Fl}(h:Kf c n false r=true):Kf c n z r=true:=by
 cases z with
 |false=>exact h
 |true=>
  induction r with
  |nil=>rfl
  |cons x r ih=>
   simp only [Kf,Tc,Th] at h ⊢;exact ⟨h.1.imp id (fun h=>by cases r with|nil=>rfl|cons y r=>exact h),ih h.2⟩
theorem P0 {r:List Fl}(h:QV c n r=true) (G:OD c n r=true->z=true):Kf c n z r=true:=by
 simp only [QV,Tc,Th] at h;cases F:OD c n r with
 |true=>rw [G F];exact h.1
 |false=>
  rcases h.2 with C|C
  ·rw [F] at C;cases C
  ·exact FF c C
theorem Aw {hc:c.Ok}(h:Pk.pick t p=some j) (n:Int):j.en c n=true->p.en c n=true:=by
 cases p with
 |fn d=>
  simp only [Pk.pick,Ts] at h;obtain ⟨m,C,rfl⟩:=h;exact fun e=>hc.dk d t m C e
 |row r=>
  simp only [Pk.pick] at h
  split at h
  ·cases h;exact id
  ·cases h
 |ex m=>
  simp only [Pk.pick] at h
  split at h
  ·cases h
  ·cases h;exact id
theorem Av (h:Pk.pick t p=some j) {n:Int}(C:p.gd c n=true):j.gd c n=true:=by
 cases p with
 |fn d=>
  simp only [Pk.pick,Ts] at h;obtain ⟨m,F,rfl⟩:=h
  rcases ov F with rfl|rfl|rfl|rfl|rfl|rfl|rfl <;> rfl
 |row r=>
  simp only [Pk.pick] at h
  split at h
  ·cases h;exact C
  ·cases h
 |ex m=>
  simp only [Pk.pick] at h
  split at h
  ·cases h
  ·cases h;exact C
theorem Et (hc:c.Ok) {t:Tv}{i:It}{d:Int}{o:List Ev}{r K:List It}(h:It.step t i=.go d o r) (U:ng c (i :: K)=true):ng c (r++K)=true:=by
 have Y:=U;simp only [ng,Tc,Th,UL] at U;obtain ⟨⟨I,C⟩,J⟩:=U;cases i with
 |fl x=>
  have hm:∃m,x=.mt m:=by
   cases x with
   |mt m=>exact ⟨m,rfl⟩
   |_=>simp only [It.step,Fl.step] at h;split at h <;> cases h
  obtain ⟨m,rfl⟩:=hm;have Q:=io t m;have H:=hc.row t m;have hz:c.mE m=true->fF c K=true:=fun e=>C.elim (fun O=>by rw [show (It.fl (.mt m)).en c (aS K)=c.mE m from rfl,e] at O;cases O) id
  simp only [It.step,Fl.step] at h;cases F:M.row t m with
  |ref=>rw [F] at h;cases h
  |ex r'=>
   rw [F] at h Q H;cases h;rw [tg c Q.2.2,J,Wh];exact Mm c (H (aS K) I) hz
  |op nd r'=>
   rw [F] at h Q H;cases h;rw [S5,tg c Q.2.2.1]
   have O:ng c ([It.lv nd]++K)=true:=by
    show (true && (!false || _) && ng c K)=true
    simp [J]
   have e2:aS ([It.lv nd]++K)=nd:=rfl;have e3:fF c ([It.lv nd]++K)=fF c K:=by show (true && (!true || _))=_;simp
   rw [O,e2,e3,Wh];exact Mm c H hz
 |lv n=>cases h;exact J
 |once p=>
  simp only [It.step] at h;cases G:Pk.pick t p with
  |none=>rw [G] at h;cases h;exact J
  |some j=>
   rw [G] at h;cases h;show ng c (j :: K)=true;simp only [ng,Tc,Th,UL];refine ⟨⟨Av c G I,?_⟩,J⟩;cases S:j.en c (aS K) with
   |false=>exact .inl rfl
   |true=>
    have:=Aw c (hc:=hc) G _ S
    rcases C with C|C
    ·rw [show (It.once p).en c (aS K)=p.en c (aS K) from rfl,this] at C;cases C
    ·exact .inr C
 |again p=>
  simp only [It.step] at h;cases G:Pk.pick t p with
  |none=>rw [G] at h;cases h;exact J
  |some j=>
   rw [G] at h;cases h;show ng c (j :: (.again p :: K))=true;rw [ng,Y,Wh];have en:aS (.again p :: K)=aS K:=rfl;rw [en];simp only [Tc,Th,UL];simp only [It.gd,Tc,Th,UL] at I;refine ⟨Av c G I.1,?_⟩;cases S:j.en c (aS K) with
   |false=>exact .inl rfl
   |true=>
    have Z:=Aw c (hc:=hc) G _ S;refine .inr ?_
    have h2:fF c K=true:=by
     rcases C with C|C
     ·rw [show (It.again p).en c (aS K)=p.en c (aS K) from rfl,Z] at C;cases C
     ·exact C
    have h3:p.ba c (aS K)=true:=I.2.elim (fun e=>by rw [Z] at e;cases e) id;show (p.ba c (aS K) && (!true || fF c K))=true;rw [h3,h2];rfl
 |all r'=>
  cases h;simp only [It.gd,Tc] at I;rw [tg c (kb r'),J,Wh,FE,I.2,T6];refine P0 c I.1 (fun e=>?_)
  rcases C with C|C
  ·rw [show (It.all r').en c (aS K)=OD c (aS K) r' from rfl,e] at C;cases C
  ·exact C
end Go.Proofs.YtcjiapphbpiffaaGreatDoor
