import Derived.Test.YtpdlohfdjiaegaaGreatDoorM21
import Derived.Test.YtpdlohfdjiaegaaGreatDoorM46
set_option linter.unusedVariables false
set_option linter.unusedSimpArgs false
set_option maxHeartbeats 2000000
namespace Go.Proofs.YtpdlohfdjiaegaaGreatDoor
open Go.RowKit
open Lw (Dc bE rt frm dep rtT rtN lsb)
def cOp (n:Int) (o:List Ev):Nat:=o.countP (fun e=>decide (e.k=1) && decide (e.n=n))
theorem ro (n:Int) (a b:List Ev):cOp n (a++b)=cOp n a+cOp n b:=List.countP_append ..
def nQ (m:M):List It->Nat
 |.fl (.mt m') :: _=>if m'=m then 1 else 0
 |_=>0
theorem ju {m1 m2:M}{n1 n2:Int}(h12:m1≠m2) (hn:n1≠n2) (h1:∀t,∃r,M.row t m1=.op n1 (.fl (.mt m2) :: r)) (h2:∀t,∃r,M.row t m2=.op n2 r) (ho:∀t m r,M.row t m=.op n1 r->m=m1)
  {t:Tv} {k:Nat} {K:List It} {n:Int} {E:List Ev} {R:Ro} (h:Ru t k K n E R):∀{L:List It} {m:Int} {F:List Ev},R=.yes L m F->∃o,F=E++o/\cOp n1 o+nQ m2 K<=cOp n2 o:=by
 induction h with
 |nil=>intro L m F h;cases h
 |ref _=>intro L m F h;cases h
 |tk hs=>
  rename_i i K n E
  intro L m F h;cases h;refine ⟨[],by simp,?_⟩
  have:nQ m2 (i :: K)=0:=by
   unfold nQ
   split
   ·rename_i m' _ e
    injection e with e1 _
    subst e1
    exfalso
    simp only [It.step,Fl.step] at hs;cases hrow:M.row t m' <;> rw [hrow] at hs <;> cases hs
   ·rfl
  rw [this];exact Nat.le_refl _
 |go hs _ ih=>
  rename_i k i K n d E o r R _
  intro L m F h;obtain ⟨o2,b1,b2⟩:=ih h;refine ⟨o++o2,by rw [b1,List.append_assoc],?_⟩;rw [ro,ro];cases i with
  |fl x=>
   have hm:∃m,x=.mt m:=by
    cases x with
    |mt m=>exact ⟨m,rfl⟩
    |_=>simp only [It.step,Fl.step] at hs;split at hs <;> cases hs
   obtain ⟨mm,rfl⟩:=hm;simp only [It.step,Fl.step] at hs;have hh:nQ m2 (It.fl (.mt mm) :: K)=if mm=m2 then 1 else 0:=rfl
   rw [hh];cases hrow:M.row t mm with
   |ref=>rw [hrow] at hs;cases hs
   |ex r'=>
    rw [hrow] at hs;cases hs;have:mm≠m2:=fun e=>by subst e;obtain ⟨r3,h3⟩:=h2 t;rw [hrow] at h3;cases h3
    rw [if_neg this];show 0+cOp n1 o2+0<=0+cOp n2 o2;omega
   |op nd r'=>
    rw [hrow] at hs;cases hs
    have c:∀q:Int,cOp q [⟨1,nd,tv0⟩]=if nd=q then 1 else 0:=by
     intro q;unfold cOp
     by_cases e:nd=q <;> simp [e]
    rw [c,c]
    by_cases e1:mm=m1
    ·subst e1;obtain ⟨r3,h3⟩:=h1 t;rw [hrow] at h3;injection h3 with h4 h5
     subst h4 h5;have hx:nQ m2 ((.fl (.mt m2) :: r3++[.lv nd])++K)=1:=by show (if m2=m2 then 1 else 0)=1;rw [if_pos rfl]
     rw [hx] at b2;rw [if_pos rfl,if_neg hn,if_neg h12];omega
    ·have e2:nd≠n1:=fun e=>e1 (ho t mm r' (by rw [hrow,e]))
     rw [if_neg e2]
     by_cases e3:mm=m2
     ·subst e3;obtain ⟨r3,h3⟩:=h2 t;rw [hrow] at h3;injection h3 with h4 h5
      subst h4;rw [if_pos rfl,if_pos rfl];omega
     ·rw [if_neg e3];omega
  |lv a=>cases hs;show 0+cOp n1 o2+0<=0+cOp n2 o2;omega
  |once p=>cases hs;show 0+cOp n1 o2+0<=0+cOp n2 o2;omega
  |again p=>cases hs;show 0+cOp n1 o2+0<=0+cOp n2 o2;omega
  |all rr=>cases hs;show 0+cOp n1 o2+0<=0+cOp n2 o2;omega
theorem jw {n:Int}{m1:M}(hn:n=21/\m1=.expr\/n=22/\m1=.rel\/n=23/\m1=.sum) (t:Tv) (m:M) (r:List It) (h:M.row t m=.op n r):m=m1:=by
 rcases hn with ⟨rfl,rfl⟩|⟨rfl,rfl⟩|⟨rfl,rfl⟩ <;> cases m <;> first|rfl|(simp only [M.row,aZ] at h;repeat' (split at h));all_goals first|(cases h;done)|rfl
theorem xO {t:Tv}{k:Nat}{K:List It}{n:Int}{E:List Ev}{L:List It}{m:Int}{F:List Ev}(h:Ru t k K n E (.yes L m F)) (hw:wfs K):∃o,F=E++o/\cOp 21 o<=2:=by
 obtain ⟨o,e1,c1⟩:=uB h rfl hw;obtain ⟨o1,f1,g1⟩:=ju (m1:=.expr) (m2:=.rel) (n1:=21) (n2:=22) (by decide) (by decide) (fun t=>⟨_,rfl⟩) (fun t=>⟨_,rfl⟩) (jw (.inl ⟨rfl,rfl⟩)) h rfl;obtain ⟨o2,f2,g2⟩:=ju (m1:=.rel) (m2:=.sum) (n1:=22) (n2:=23) (by decide) (by decide) (fun t=>⟨_,rfl⟩) (fun t=>⟨_,rfl⟩) (jw (.inr (.inl ⟨rfl,rfl⟩))) h rfl;obtain ⟨o3,f3,g3⟩:=ju (m1:=.sum) (m2:=.term) (n1:=23) (n2:=24) (by decide) (by decide) (fun t=>⟨_,rfl⟩) (fun t=>⟨_,rfl⟩) (jw (.inr (.inr ⟨rfl,rfl⟩))) h rfl;have q1:=List.append_cancel_left (e1.symm.trans f1);have q2:=List.append_cancel_left (e1.symm.trans f2);have q3:=List.append_cancel_left (e1.symm.trans f3);subst q1 q2 q3;refine ⟨o,e1,?_⟩
 have key:cOp 21 o+cOp 22 o+cOp 23 o+cOp 24 o<=opC o:=by
  clear e1 c1 f1 g1 f2 g2 f3 g3
  induction o with
  |nil=>exact Nat.le_refl _
  |cons e o ih=>
   have hc:∀n:Int,cOp n (e :: o)=cOp n o+(if e.k=1/\e.n=n then 1 else 0):=by
    intro n;unfold cOp;rw [List.countP_cons];simp
   have ho:opC (e :: o)=opC o+(if e.k=1 then 1 else 0):=by unfold opC;rw [List.countP_cons];simp
   rw [hc,hc,hc,hc,ho]
   by_cases hk:e.k=1
   ·simp only [hk,true_and,if_true]
    repeat' split
    all_goals omega
   ·simp only [hk,false_and,if_false];omega
 omega
end Go.Proofs.YtpdlohfdjiaegaaGreatDoor
namespace Go.Proofs.YtpdlohfdjiaegaaGreatDoor
open Go.RowKit
open Lw (Dc bE rt frm dep rtT rtN lsb ud uds)
variable {o:List Ev}
def nbk (d:Dc):Bool:=!(decide (d.k=6) || decide (d.k=7))
def wtD (l:List Dc):Nat:=l.countP nbk
theorem ci (a b:List Dc):wtD (a++b)=wtD a+wtD b:=List.countP_append ..
theorem el (d:Dc) (b:List Dc):wtD (d :: b)=wtD b+(if nbk d=true then 1 else 0):=List.countP_cons ..
theorem fC (d:Dc):wtD [d]<=1:=by rw [el];split <;> simp [wtD]
def Pz.nb (p:Pz):Nat:=match p with|.S=>1|.B0=>1|.B1=>1|.H=>1|_=>0
def pzN (l:List Pz):Nat:=(l.map Pz.nb).sum
theorem Cw (s:Sy) (p:Pz):wtD (s.aw p).ws<=wtD s.ws+p.nb:=by
 rw [kV,ci]
 have:wtD (awW p s.ns)<=p.nb:=by
  unfold awW
  split
  ·exact Nat.zero_le _
  ·cases p <;> exact Nat.le_refl _
 omega
theorem pU (l:List Pz):∀s:Sy,wtD (s.aws l).ws<=wtD s.ws+pzN l:=by
 induction l with
 |nil=>intro s;exact Nat.le_refl _
 |cons p l ih=>
  intro s;rw [bA];have h1:=ih (s.aw p);have h2:=Cw s p;have h3:pzN (p :: l)=p.nb+pzN l:=rfl;omega
theorem zP (a:Fx):pzN a.pz<=1:=by cases a <;> decide
def pgN (l:List Nd):Nat:=l.countP (fun n=>decide (n.k=1))
def pot (s:Sy):Nat:=wtD s.ws+pgN s.ns
theorem yi (p:Pz) (l:List Nd):pgN (awN p l)=pgN l:=by
 cases l with
 |nil=>rfl
 |cons n r=>simp only [awN];split <;> (unfold pgN;rw [List.countP_cons,List.countP_cons])
theorem yh (l:List Pz):∀s:Sy,pgN (s.aws l).ns=pgN s.ns:=by
 induction l with
 |nil=>intro s;rfl
 |cons p l ih=>intro s;rw [bA,ih];exact yi p s.ns
theorem lG (s:Sy) (l:List Pz):pot (s.aws l)<=pot s+pzN l:=by
 unfold pot;rw [yh];have:=pU l s;omega
theorem o8 (s:Sy):pot s.exprIn<=pot s+1:=by
 unfold Sy.exprIn
 split
 ·omega
 ·rename_i n r e
  have hp:pgN (⟨n.k,(if n.k=19 then n.b+1 else n.b),true⟩ :: r)=pgN s.ns:=by rw [e];unfold pgN;rw [List.countP_cons,List.countP_cons]
  show wtD (if n.k=19 then s.aws [.S,.I 3] else if n.k=31/\n.s=false then s.aws [.B0] else s).ws+pgN (⟨n.k,(if n.k=19 then n.b+1 else n.b),true⟩ :: r)<=_
  rw [hp];unfold pot
  split
  ·have:=pU [.S,.I 3] s;have:pzN [.S,.I 3]=1:=rfl;omega
  ·split
   ·have:=pU [.B0] s;have:pzN [.B0]=1:=rfl;omega
   ·omega
def weO (k:Int):Nat:=(if k=21 then 1 else 0)+(if k=1 then 1 else 0)
theorem sC (s:Sy) (k:Int):pot (s.opens k)<=pot s+weO k:=by
 obtain ⟨s1,hs1⟩:∃s1,(if k=21 then s.exprIn else s)=s1:=⟨_,rfl⟩
 have h1:pot s1<=pot s+(if k=21 then 1 else 0):=by
  rw [<-hs1];split
  ·exact o8 s
  ·omega
 have h2:pot (s1.mark k)=pot s1:=by unfold Sy.mark;split <;> rfl
 have e:s.opens k=Sy.aws { (s1.mark k) with ns:=⟨k,0,false⟩ :: (s1.mark k).ns } (opP k):=by unfold Sy.opens;simp only;rw [hs1]
 rw [e];have h3:=lG { (s1.mark k) with ns:=⟨k,0,false⟩ :: (s1.mark k).ns } (opP k);have h4:pzN (opP k)=0:=by unfold opP;split;rfl;split <;> rfl
 have h5:pot ({ (s1.mark k) with ns:=⟨k,0,false⟩ :: (s1.mark k).ns }:Sy)=pot (s1.mark k)+(if k=1 then 1 else 0):=by
  show wtD (s1.mark k).ws+pgN (⟨k,0,false⟩ :: (s1.mark k).ns)=wtD (s1.mark k).ws+pgN (s1.mark k).ns+_
  unfold pgN;rw [List.countP_cons];simp;omega
 unfold weO;omega
theorem o7 (s:Sy):pot s.leaves<=pot s:=by
 unfold Sy.leaves
 split
 ·omega
 ·rename_i n r e
  show wtD (s.ws++List.replicate n.b dX++(if n.k=1 then [dH] else []))+pgN r<=_
  have hp:pgN s.ns=pgN r+(if n.k=1 then 1 else 0):=by rw [e];unfold pgN;rw [List.countP_cons];simp
  have hr:wtD (List.replicate n.b dX)=0:=by unfold wtD;rw [List.countP_replicate];rfl
  unfold pot;rw [ci,ci,hr,hp]
  split
  ·have:=fC dH;omega
  ·show _+0+wtD []+_<=_;have:wtD []=0:=rfl;omega
theorem sA (s:Sy) (a:Fx) (f:Int):pot (s.ready a f)<=pot s+4:=by
 have h1:=lG s a.pz;have hf:=zP a
 have e1:pot ((s.aws a.pz).emp f)<=pot (s.aws a.pz)+1:=by
  unfold Sy.emp
  split
  ·omega
  ·split
   ·omega
   ·rename_i m _ _
    show wtD ((s.aws a.pz).ws.take m++dE :: (s.aws a.pz).ws.drop m)+pgN (s.aws a.pz).ns<=_
    have hx:wtD (s.aws a.pz).ws=wtD ((s.aws a.pz).ws.take m)+wtD ((s.aws a.pz).ws.drop m):=by rw [<-ci,List.take_append_drop]
    unfold pot;rw [ci,el,hx]
    split <;> omega
 have e2:∀u:Sy,pot u.endl<=pot u+1:=fun u=>by
  unfold Sy.endl
  split
  ·show wtD (dH :: u.ws)+pgN u.ns<=_;unfold pot;rw [el];split <;> omega
  ·omega
 have e3:∀u:Sy,pot u.part<=pot u+1:=fun u=>by
  unfold Sy.part
  split
  ·show wtD (u.ws++[dS])+pgN u.ns<=_;unfold pot;rw [ci];have:=fC dS;omega
  ·omega
 unfold Sy.ready;have:=e3 ((s.aws a.pz).emp f).endl;have:=e2 ((s.aws a.pz).emp f);omega
theorem uZ (s:Sy) (t:Tv):wtD (s.leaf t).2+pot (s.leaf t).1<=pot s+6:=by
 unfold Sy.leaf
 split
 ·have h0:wtD ([]:List Dc)=0:=rfl;show wtD []+pot s<=pot s+6;omega
 ·rename_i n r e
  have h1:=sA s (au n t).a t.f;have h2:=lG ⟨(s.ready (au n t).a t.f).ns,[],none,true,false,false⟩ (au n t).b.pz;have h3:=zP (au n t).b
  have h4:pot ⟨(s.ready (au n t).a t.f).ns,[],none,true,false,false⟩=pgN (s.ready (au n t).a t.f).ns:=by
   have h0:wtD ([]:List Dc)=0:=rfl;show wtD []+pgN (s.ready (au n t).a t.f).ns=pgN (s.ready (au n t).a t.f).ns;omega
  show wtD ((s.ready (au n t).a t.f).ws++[dT t.t])+pot (Sy.aws ⟨(s.ready (au n t).a t.f).ns,[],none,true,false,false⟩ (au n t).b.pz)<=_
  rw [ci];have:=fC (dT t.t);have h5:pot (s.ready (au n t).a t.f)=wtD (s.ready (au n t).a t.f).ws+pgN (s.ready (au n t).a t.f).ns:=rfl;omega
theorem uY (s:Sy) (t:Tv):wtD (s.note t).2+pot (s.note t).1<=pot s+6:=by
 have hx:wtD s.ws=wtD (s.ws.takeWhile aK)+wtD (s.ws.dropWhile aK):=by rw [<-ci,List.takeWhile_append_dropWhile]
 have a1:=fC (dT t.t);have a2:=fC dS;unfold Sy.note;simp only
 split
 ·show wtD (s.ws.takeWhile aK++[dS,dT t.t])+(wtD (s.ws.dropWhile aK)+pgN s.ns)<=_
  unfold pot;rw [ci,show ([dS,dT t.t]:List Dc)=[dS]++[dT t.t] from rfl,ci,hx];omega
 ·show wtD (s.ws.takeWhile aK++dH :: ((if _ then [dE] else [])++[dT t.t]))+(wtD (s.ws.dropWhile aK)+pgN s.ns)<=_
  unfold pot;rw [ci,el,ci,hx];have a3:=fC dE;have a4:wtD ([]:List Dc)=0:=rfl
  split <;> split <;> omega
def weE (e:Ev):Nat:=if e.k=1 then weO e.n else if e.k=3 then 0 else 6
def weL (E:List Ev):Nat:=(E.map weE).sum
theorem iL (a b:List Ev):weL (a++b)=weL a+weL b:=by unfold weL;rw [List.map_append,List.sum_append]
theorem yg {s s':Sy}{e:Ev}{l:List Dc}(h:cd s e=some (s',l)):wtD l+pot s'<=pot s+weE e:=by
 unfold cd at h
 split at h
 ·have h':=Option.some.inj h;obtain ⟨e1,e2⟩:(s.step e).1=s'/\(s.step e).2=l:=⟨by rw [h'],by rw [h']⟩;rw [<-e1,<-e2];unfold Sy.step weE
  split
  ·have h1:=sC s e.n;have h0:wtD ([]:List Dc)=0:=rfl;show wtD []+pot (s.opens e.n)<=pot s+weO e.n;omega
  ·split
   ·have h1:=o7 s;have h0:wtD ([]:List Dc)=0:=rfl;show wtD []+pot s.leaves<=pot s+0;omega
   ·split
    ·exact uZ s e.d
    ·exact uY s e.d
 ·cases h
theorem pY:∀(E:List Ev) {s:Sy}{L:List Dc},bL s E=some L->wtD L<=pot s+weL E+1
 |[],s,L,h=>by
  have h':eh s=some L:=h;unfold eh at h'
  split at h'
  ·cases h';unfold Sy.endl;unfold pot
   split
   ·show wtD (dH :: s.ws)<=_;rw [el];split <;> omega
   ·omega
  ·cases h'
 |e :: E,s,L,h=>by
  rw [dK] at h;cases hp:cd s e with
  |none=>rw [hp] at h;cases h
  |some x=>
   obtain ⟨s1,l⟩:=x;rw [hp] at h;simp only at h;obtain ⟨L1,h1,h2⟩:=Option.map_eq_some_iff.1 h;have a1:=pY E h1;have a2:=yg hp;have a3:weL (e :: E)=weE e+weL E:=rfl;rw [<-h2,ci];omega
theorem xj (hB:Brk o):weL o<=cOp 21 o+cOp 1 o:=by
 induction o with
 |nil=>exact Nat.le_refl _
 |cons e o ih=>
  have h1:=ih (fun x hx=>hB x (List.mem_cons_of_mem _ hx))
  have hc:∀n:Int,cOp n (e :: o)=cOp n o+(if e.k=1/\e.n=n then 1 else 0):=by
   intro n;unfold cOp;rw [List.countP_cons];simp
  have hw:weL (e :: o)=weE e+weL o:=rfl;rw [hw,hc,hc];unfold weE weO
  rcases hB e (List.mem_cons_self ..) with hk|hk
  ·simp only [hk,true_and,if_true]
   repeat' split
   all_goals omega
  ·rw [if_neg (by omega),if_pos hk]
   repeat' split
   all_goals omega
theorem xa:∀(l:List Tv) (K:List It) (n:Int) (E:List Ev) (a:Nat),Alr (.live K n) l E 0 a->eU (.live K n)->weL E<=10*l.length
 |[],K,n,E,a,hA,hg=>by
  obtain ⟨hc,_⟩:=hA.end;cases hc with
  |all hK=>exact Nat.le_refl _
 |t :: l,K,n,E,a,hA,hg=>by
  rcases hA.inv with ⟨_,_,_,hc,_⟩|⟨ev,st',E2,k2,hp,hA2,rfl,rfl⟩
  ·exact absurd rfl hc
  ·obtain ⟨b1,b2,b3,b4,b5,hbot,hbn,hbe⟩:=cm hg;have hgk:=(dh hg hp).1
   have hB1:weL (aT n)<=1:=by
    unfold aT
    split
    ·decide
    ·decide
   have key:weL ev<=10/\∃K' n',st'=.live K' n':=by
    cases hp with
    |note hc=>
     rw [iL];have:weL [⟨4,0,t⟩]=6:=rfl;exact ⟨by omega,_,_,rfl⟩
    |yes hc hR hkk hm=>
     obtain ⟨_,_,_,o,d4,_,d6,_⟩:=eI hR rfl b1 b2 b3;obtain ⟨o2,f1,f2⟩:=xO hR b1;rw [d4] at f1;have q:=List.append_cancel_left f1;subst q;have hBo:Brk o:=fun e he=>(d6 e he).2.1
     have h1:=xj hBo
     have h2:cOp 1 o=0:=by
      unfold cOp;rw [List.countP_eq_zero];intro e he;have:=(d6 e he).2.2;simp;exact this
     rw [d4,iL,iL];have:weL [⟨2,0,t⟩]=6:=rfl;exact ⟨by omega,_,_,rfl⟩
   obtain ⟨k1,K',n',rfl⟩:=key;have h2:=xa l K' n' E2 k2 hA2 hgk;rw [iL,List.length_cons];omega
def szB (l:List ByteArray):Nat:=(l.map (·.size)).sum
theorem xA (a b:List ByteArray):szB (a++b)=szB a+szB b:=by unfold szB;rw [List.map_append,List.sum_append]
theorem tY:∀(L:List Dc),(∀d∈L,rt d=true)->uds L<=1001*wtD L+2*szB (txs L)
 |[],_=>by simp [uds,wtD,txs,szB]
 |d :: L,h=>by
  have ih:=tY L (fun x hx=>h x (List.mem_cons_of_mem _ hx));have e1:uds (d :: L)=ud d+uds L:=rfl;have e2:txs (d :: L)=txs [d]++txs L:=by rw [<-gj];rfl
  rw [e1,el,e2,xA]
  have key:ud d<=(if nbk d=true then 1001 else 0)+2*szB (txs [d]):=by
   cases Lw.iA (h d (List.mem_cons_self ..)) with
   |text t hq=>
    have:txs [⟨1,t,0,0,false⟩]=[t]:=rfl;rw [this];show 2*t.size+1001<=1001+2*(t.size+0);omega
   |brk n hq=>exact Nat.le_refl _
   |beg n e hq=>exact Nat.le_refl _
   |blank=>exact Nat.le_refl _
   |hard=>exact Nat.le_refl _
   |empty=>exact Nat.le_refl _
   | «end»=>exact Nat.le_refl _
  split at key <;> rename_i hc
  ·rw [if_pos hc];omega
  ·rw [if_neg hc];omega
theorem mT:∀(E:List Ev) {L0 L:List Dc}{s:Sy},Snd L0 s->bL s E=some L->txs L=E.flatMap evT
 |[],L0,L,s,hS,h=>(qk hS h).2
 |e :: E,L0,L,s,hS,h=>by
  rw [dK] at h;cases hp:cd s e with
  |none=>rw [hp] at h;cases h
  |some x=>
   obtain ⟨s1,l⟩:=x;rw [hp] at h;simp only at h;obtain ⟨L1,h1,h2⟩:=Option.map_eq_some_iff.1 h;obtain ⟨a1,a2,_⟩:=qj hS hp;rw [<-h2,gj,a2,mT E a1 h1];rfl
theorem zm (hB:Brk o):o.flatMap evT=[]:=by
 induction o with
 |nil=>rfl
 |cons e o ih=>
  rw [List.flatMap_cons,ih (fun x hx=>hB x (List.mem_cons_of_mem _ hx)),List.append_nil];unfold evT
  rcases hB e (List.mem_cons_self ..) with h|h
  ·rw [if_pos h]
  ·rw [if_neg (by omega),if_pos h]
theorem rA:∀(l:List Tv) (K:List It) (n:Int) (E:List Ev) (a:Nat),Alr (.live K n) l E 0 a->eU (.live K n)->E.flatMap evT=l.map (·.t)
 |[],K,n,E,a,hA,hg=>by
  obtain ⟨hc,_⟩:=hA.end;cases hc with
  |all hK=>rfl
 |t :: l,K,n,E,a,hA,hg=>by
  rcases hA.inv with ⟨_,_,_,hc,_⟩|⟨ev,st',E2,k2,hp,hA2,rfl,rfl⟩
  ·exact absurd rfl hc
  ·obtain ⟨s,hs⟩:∃s:Sy,s.ks=lvs K:=⟨⟨(lvs K).map (fun k=>⟨k,0,false⟩),[],none,false,false,false⟩,by unfold Sy.ks;rw [List.map_map];exact List.map_id _⟩;obtain ⟨o,e,K',n',rfl,rfl,hg',hB,hn,hpl,hlen,rfl⟩:=qt hg hs hp;rw [List.flatMap_append,List.flatMap_append,zm hB,rA l K' n' E2 k2 hA2 hg']
   have:evT ⟨if (t.k == 7 || t.k == 8)=true then 4 else 2,0,t⟩=[t.t]:=by
    by_cases hc:(t.k == 7 || t.k == 8)=true
    ·rw [if_pos hc];rfl
    ·rw [if_neg hc];rfl
   rw [List.flatMap_cons,this];rfl
theorem iZ (s:ByteArray):∀(d a f:Nat),s.size-a<=d->szB ((Lx.fnd s a f).1.map (fun t=>s.extract t.a t.e))<=s.size-a
 |d,a,f,hd=>by
  by_cases ha:s.size<=a
  ·rw [Lx.cL s a f ha];exact Nat.zero_le _
  ·cases d with
   |zero=>omega
   |succ d=>
   rw [Lx.bF s a f (by omega)]
   split
   ·have:=iZ s d (a+1) (f+1) (by omega);omega
   ·split
    ·have:=iZ s d (a+1) f (by omega);omega
    ·split
     ·exact Nat.zero_le _
     ·rename_i h3
      split
      ·exact Nat.zero_le _
      ·rename_i h4
       have he:Lx.ah s a (Lx.ag s a)=((Lx.ah s a (Lx.ag s a)).1,0):=Prod.ext rfl (by simpa using h4);obtain ⟨hap,hp⟩:=Lx.cG s a _ _ (by omega) rfl h3 he;have ih:=iZ s d (Lx.ah s a (Lx.ag s a)).1 0 (by omega);obtain ⟨p,hpp⟩:∃p,(Lx.ah s a (Lx.ag s a)).1=p:=⟨_,rfl⟩;rw [hpp] at hap hp ih ⊢
       have hte:(Lx.bI s (Lx.ag s a) a p f).e<=p:=by
        show (if Lx.ag s a=7 then Lx.aI s p else p)<=p
        split
        ·exact Lx.dJ s p
        ·exact Nat.le_refl _
       have hsz:(s.extract (Lx.bI s (Lx.ag s a) a p f).a (Lx.bI s (Lx.ag s a) a p f).e).size<=p-a:=by
        rw [Lx.aj s _ _ (by omega)];show (Lx.bI s (Lx.ag s a) a p f).e-a<=p-a;omega
       simp only [List.map_cons];show (s.extract _ _).size+szB _<=_;omega
termination_by d=>d
theorem tZ {s:ByteArray}{E:List Ev}{a:Nat}{L:List Dc}(hA:Alr (.live [] 0) (stk s) E 0 a) (hL:bL sy0 E=some L) (hs:s.size<=20000) (hl:(stk s).length<=s.size):uds L<=268435456/\∀d∈L,rt d=true:=by
 have hf:frm 0 0 L=none:=by have h:=jr E iN hL;rw [List.nil_append] at h;exact h
 have hr:=Lw.jR L 0 0 hf;have h1:=tY L hr;have h2:=pY E hL;have h3:=xa _ _ _ _ _ hA dm;have h4:txs L=(stk s).map (·.t):=by rw [mT E iN hL];exact rA _ _ _ _ _ hA dm
 have h5:szB ((stk s).map (·.t))<=s.size:=by
  have:=iZ s _ 0 0 (Nat.le_refl _);show szB (((Lx.scn s).1.map (Lx.tv s)).map (·.t))<=_;rw [List.map_map];have e:(fun t:Tv=>t.t) ∘ Lx.tv s=fun t=>s.extract t.a t.e:=rfl
  rw [e];exact this
 have h6:pot sy0=0:=rfl;rw [h4] at h1;exact ⟨by omega,hr⟩
end Go.Proofs.YtpdlohfdjiaegaaGreatDoor
namespace Go.Proofs.YtpdlohfdjiaegaaGreatDoor
open Go.RowKit
open Lw (Dc bE rt frm dep rtT rtN dcs aD bk)
variable {w W:World}{l:List Ev}{v:Value}
def Lev (w:World) (ao:Option Addr) (l:List Ev):Prop:=∀j e,l[j]?=some e->∃b off,ao=some ⟨b,off,none⟩ /\
 w.cell? ⟨b,off+j*8,none⟩=some (.int .u8 e.k)/\w.cell? ⟨b,off+j*8+1,none⟩=some (.int .u8 e.n)/\w.cell? ⟨b,off+j*8+2,none⟩=some (.int .u8 e.d.k)/\w.cell? ⟨b,off+j*8+3,none⟩=some (.string e.d.t)/\w.cell? ⟨b,off+j*8+4,none⟩=some (.int .i64 e.d.a)/\w.cell? ⟨b,off+j*8+5,none⟩=some (.int .i64 e.d.l)/\w.cell? ⟨b,off+j*8+6,none⟩=some (.int .i64 e.d.c)/\w.cell? ⟨b,off+j*8+7,none⟩=some (.int .i64 e.d.f)
theorem Lev.below {w':World}{ao:Option Addr}(h:Lev w ao l) (hb:Below w.heap.size w w'):Lev w' ao l:=by
 intro j a ha;obtain ⟨b,off,h1,c0,c1,c2,c3,c4,c5,c6,c7⟩:=h j a ha;have hlt:=World.block_lt_of_cell? _ _ c0;have e:w'.heap[b]?=w.heap[b]?:=(Kp.of_below (S:=fun _=>False) hb).block b hlt (fun h=>h);exact ⟨b,off,h1,(World.cell?_of_block (a:=⟨b,_,none⟩) e).trans c0,(World.cell?_of_block (a:=⟨b,_,none⟩) e).trans c1,(World.cell?_of_block (a:=⟨b,_,none⟩) e).trans c2,(World.cell?_of_block (a:=⟨b,_,none⟩) e).trans c3,(World.cell?_of_block (a:=⟨b,_,none⟩) e).trans c4,(World.cell?_of_block (a:=⟨b,_,none⟩) e).trans c5,(World.cell?_of_block (a:=⟨b,_,none⟩) e).trans c6,(World.cell?_of_block (a:=⟨b,_,none⟩) e).trans c7⟩
theorem AK {p:Option Addr}{n cap:Nat}(h:Re w (.slice p n cap) l):Lev w p l:=by
 intro j d hj
 rcases h.2 with ⟨h1,h0⟩|⟨g,cap',cur,h1,_⟩
 ·have:l=[]:=List.eq_nil_of_length_eq_zero h0;subst this;simp at hj
 ·cases h1
  have hc:∀(k:Nat) (u:Value),(ecs l)[k]?=some u->w.cell? ⟨g,k,none⟩=some u:=fun k u hu=>by
   have:=World.ownsRow.cells h (g:=g) rfl k u hu;rw [Addr.add_lit,Nat.zero_add] at this;exact this
  refine ⟨g,0,rfl,?_,?_,?_,?_,?_,?_,?_,?_⟩
  ·rw [Nat.zero_add];exact hc _ _ (aH Ev.cs 8 Ev.cs_len l j 0 d _ hj rfl)
  ·rw [Nat.zero_add];exact hc _ _ (aH Ev.cs 8 Ev.cs_len l j 1 d _ hj rfl)
  ·rw [Nat.zero_add];exact hc _ _ (aH Ev.cs 8 Ev.cs_len l j 2 d _ hj rfl)
  ·rw [Nat.zero_add];exact hc _ _ (aH Ev.cs 8 Ev.cs_len l j 3 d _ hj rfl)
  ·rw [Nat.zero_add];exact hc _ _ (aH Ev.cs 8 Ev.cs_len l j 4 d _ hj rfl)
  ·rw [Nat.zero_add];exact hc _ _ (aH Ev.cs 8 Ev.cs_len l j 5 d _ hj rfl)
  ·rw [Nat.zero_add];exact hc _ _ (aH Ev.cs 8 Ev.cs_len l j 6 d _ hj rfl)
  ·rw [Nat.zero_add];exact hc _ _ (aH Ev.cs 8 Ev.cs_len l j 7 d _ hj rfl)
structure YI (w:World) (g:Nat) (v:Value) (D:List Dc) (st:Sst) (S:Nat->Prop) (W:World):Prop where
 bel:Below w.heap.size w W
 sq:Sq S W g st
 sB:∀k,S k->w.heap.size<=k
 rd:Rd W v D
 vB:∀k,v.ownBlock=some k->w.heap.size<=k/\¬S k
structure YJ (w:World) (g:Nat) (v x:Value) (D ds:List Dc) (st:Sst) (W:World):Prop where
 rv:Rd W v D
 rx:Rd W x ds
 fin:∀v' w',Rd w' v' (D++ds)->Kp (fun k=>v.ownBlock=some k) W w'->Nb W v v'->∃S,YI w g v' (D++ds) st S w'
 ex:∃S,YI w g v D st S W
theorem B5 {l:List Dc}(h:Rd W v l):∀k,v.ownBlock=some k->k<W.heap.size:=by
 intro k hk
 rcases h.2 with ⟨rfl,_⟩|⟨b,cap,cur,rfl,_,h3,_⟩
 ·cases hk
 ·simp only [Value.ownBlock,Option.some.injEq] at hk;subst hk;exact ap h3
theorem YI.call {g:Nat}{D:List Dc}{st:Sst}{S:Nat->Prop}{W':World}(h:YI w g v D st S W) {x:Value}{ds:List Dc}{st':Sst}(hp:Aq S g W W' x ds st'):YJ w g v x D ds st' W':=by
 obtain ⟨⟨S',p1,p3,p4⟩,hre,hkp⟩:=hp;have hb:Below w.heap.size w W':=iX h.bel hkp (fun k hk=>h.sB k hk) h.bel.size
 have hs':∀k,S' k->w.heap.size<=k:=by
  intro k hk
  rcases p3 k hk with a|a
  ·exact h.sB k a
  ·exact Nat.le_trans h.bel.size a
 have hv:Rd W' v D:=hkp.row h.rd (fun k e=>(h.vB k e).2)
 have hvS:∀k,v.ownBlock=some k->w.heap.size<=k/\¬S' k:=by
  intro k e;refine ⟨(h.vB k e).1,fun hs=>?_⟩
  rcases p3 k hs with a|a
  ·exact (h.vB k e).2 a
  ·have:=B5 h.rd k e;omega
 refine ⟨hv,hre,fun v' w' hr hk hn=>⟨S',?_⟩,S',hb,p1,hs',hv,hvS⟩;refine ⟨iX hb hk (fun k e=>(h.vB k e).1) hb.size,p1.kp hk (fun k hs e=>(hvS k e).2 hs),hs',hr,?_⟩;intro k e
 rcases hn with e1|⟨q,e1,hq⟩
 ·exact hvS k (by rw [<-e1];exact e)
 ·rw [e1] at e;simp at e;subst e;exact ⟨Nat.le_trans hb.size hq,fun hs=>by have:=p1.lt _ hs;omega⟩
def LyP (W:World) (E:List Ev) (r:Ending) (w':World):Prop:=
 ∃p n c,r=.returned (.tuple #[.slice p n c,.bool (bL sy0 E).isSome])/\Below W.heap.size W w'/\∀L,bL sy0 E=some L->Rd w' (.slice p n c) L/\(∀k,(Value.slice p n c).ownBlock=some k->W.heap.size<=k)/\L.length<=12*E.length+12
theorem ur {s:Sy}{e:Ev}{r:List Ev}:bL s (e :: r)=match cd s e with|none=>none|some (s',l)=>(bL s' r).map (l++·):=rfl
theorem pg (E:List Ev) (ao:Option Addr) (cap:Nat) (W:World) (hL:Lev W ao E) (hl:E.length<=30000000) (ht:∀e∈E,e.d.t.size<=9223372036854775807) :
  Da 32 #[.slice ao E.length cap] W fun r w'=>LyP W E r w':=by
 have HM:Hid (E.length<=30000000/\∀e∈E,e.d.t.size<=9223372036854775807):=⟨hl,ht⟩;have HLe:Hid (∀V,Below W.heap.size W V->Lev V ao E):=fun V hb=>hL.below hb
 have HNew:Hid (∀V,Da 10 #[] V fun r w'=>r=.returned (spg V.heap.size)/\Sq (fun k=>k=V.heap.size) w' V.heap.size (.live sy0)/\Below V.heap.size V w'):=pd;clear hL hl ht
 go_enter Tryz.func32,Tryz.ntmps32
 go_wp2_with fail
 refine (HNew.out _).mono ?_;rintro r w5 ⟨rfl,hq,hb⟩;obtain ⟨g,hg⟩:∃g,W.heap.size=g:=⟨_,rfl⟩;have HI:Hid (∃S,YI W W.heap.size (.slice none 0 0) [] (.live sy0) S w5):=⟨_,hb,hq,fun k e=>by rw [e];omega,ic _,fun k e=>by cases e⟩;rw [hg] at HI ⊢;clear hq hb hg HNew
 go_wp2_with fail
 go_loopw [5,6,7,8] (fun v i _ _ wr=>∃j:Nat,j<=E.length/\i=.int .i64 j/\Hid (∃S s D,YI W g v D (.live s) S wr/\bL sy0 E=(bL s (E.drop j)).map (D++·)/\D.length+phi s<=12*j/\s.ns.length<=j/\Mo s)) (fun _ i _ _ _=>E.length-(intOf i).toNat)
 case atStart=>
  obtain ⟨S,hI⟩:=HI.out;exact ⟨0,Nat.zero_le _,rfl,S,_,[],hI,by simp,by decide,by decide,fun m hm=>by cases hm⟩
 case round=>
  obtain ⟨j,hj,rfl,HJ⟩:=hrel;obtain ⟨S,s,D,hI,hR,hz,hn,hm⟩:=HJ.out;obtain ⟨pv,cpv,hv,_⟩:=aS hI.rd;subst hv;obtain ⟨hEl,hEt⟩:=HM.out;have hbd:Sbd (.live s):=Aw (j:=j) (by omega) hn hm (by omega)
  by_cases hlt:j<E.length
  ·have q1:(j:Int)<E.length:=by omega
   have q0:(0:Int)<=j:=by omega
   obtain ⟨t,hT⟩:∃t,E[j]?=some t:=⟨_,List.getElem?_eq_getElem hlt⟩
   have hdr:E.drop j=t :: E.drop (j+1):=by
    obtain ⟨a1,a2⟩:=List.getElem?_eq_some_iff.1 hT;rw [List.drop_eq_getElem_cons a1,a2]
   have htt:=hEt t (List.mem_of_getElem? hT);obtain ⟨b,off,rfl,x0,x1,x2,x3,x4,x5,x6,x7⟩:=HLe.out wr hI.bel j t hT;rw [hdr,ur] at hR;have hP:=uo hI.sq hbd t htt;clear HJ HI hdr hT hbd htt hEt;cases hs:cd s t with
   |none=>
    rw [hs] at hR;have hpp:o6 t (.live s)=(130,[],.live s):=by show (match cd s t with|none=>_|some (s',l)=>_)=_;rw [hs]
    rw [hpp] at hP;have HP:Hid (Da 21 #[spg g,.agg #[.int .u8 t.k,.int .u8 t.n,.int .u8 t.d.k,.string t.d.t,.int .i64 t.d.a,.int .i64 t.d.l,.int .i64 t.d.c,.int .i64 t.d.f]] wr fun rr w'=>∃v,rr=.returned (.tuple #[v,.int .i64 130])/\Aq S g wr w' v [] (.live s)):=hP;have HN:Hid (∀w' x,Aq S g wr w' x [] (.live s)->YJ W g (.slice pv D.length cpv) x D [] (.live s) w'):=fun w' x hx=>hI.call hx
    have HR:Hid (bL sy0 E=none):=hR;clear hI hR hP hpp hs hz hn hm
    go_wp2_with fail
    refine HP.out.mono ?_;rintro r w6 ⟨x,rfl,hx⟩;have H6:Hid (YJ W g (.slice pv D.length cpv) x D [] (.live s) w6):=HN.out _ _ hx;obtain ⟨px,cx,hxs,_⟩:=aS H6.out.rx;subst hxs;clear hx
    go_wp2_with fail
    obtain ⟨S2,hI2⟩:=H6.out.ex;refine bodyPost_ret (v:=.tuple #[.slice none 0 0,.bool false]) (by simp [results,Tryz.f32,go_sem]) rfl ?_;exact ⟨none,0,0,by rw [HR.out];rfl,hI2.bel,fun L hL=>by rw [HR.out] at hL;cases hL⟩
   |some pr=>
    obtain ⟨s',ds⟩:=pr;rw [hs] at hR;have hpp:o6 t (.live s)=(0,ds,.live s'):=by show (match cd s t with|none=>_|some (s',l)=>_)=_;rw [hs]
    rw [hpp] at hP;have HP:Hid (Da 21 #[spg g,.agg #[.int .u8 t.k,.int .u8 t.n,.int .u8 t.d.k,.string t.d.t,.int .i64 t.d.a,.int .i64 t.d.l,.int .i64 t.d.c,.int .i64 t.d.f]] wr fun rr w'=>∃v,rr=.returned (.tuple #[v,.int .i64 0])/\Aq S g wr w' v ds (.live s')):=hP;have HN:Hid (∀w' x,Aq S g wr w' x ds (.live s')->YJ W g (.slice pv D.length cpv) x D ds (.live s') w'):=fun w' x hx=>hI.call hx
    obtain ⟨z1,z2,z3⟩:=qG hs;have hR2:bL sy0 E=((bL s' (E.drop (j+1))).map (ds++·)).map (D++·):=hR;have HK:Hid (bL sy0 E=(bL s' (E.drop (j+1))).map ((D++ds)++·)/\(D++ds).length+phi s'<=12*(j+1)/\s'.ns.length<=j+1/\Mo s'/\D.length+ds.length<=1000000000000):=⟨by rw [hR2];generalize bL s' (E.drop (j+1))=o;cases o <;> simp,by rw [List.length_append];omega,by omega,z3 hm,by omega⟩;clear hI hR hR2 hP hpp hs hz hn hm z1 z2 z3
    go_wp2_with fail
    refine HP.out.mono ?_;rintro r w6 ⟨x,rfl,hx⟩;have H6:Hid (YJ W g (.slice pv D.length cpv) x D ds (.live s') w6):=HN.out _ _ hx;obtain ⟨px,cx,hxs,_⟩:=aS H6.out.rx;subst hxs;clear hx
    go_wp2_with (at_builtin;refine wZ (by rfl) _ _ (by rfl) (.slice pv D.length cpv) (.slice px ds.length cx) D ds (by rfl) H6.out.rv (by rfl) H6.out.rx HK.out.2.2.2.2 ?_;intro v3 w7 h3 k3 n3;have H7:Hid (∃S,YI W g v3 (D++ds) (.live s') S w7):=H6.out.fin _ _ h3 k3 n3;clear h3 k3 n3)
    obtain ⟨S3,hI3⟩:=H7.out;exact ⟨⟨j+1,hlt,by go_num,S3,s',D++ds,hI3,HK.out.1,HK.out.2.1,HK.out.2.2.1,HK.out.2.2.2.1⟩,by simp [intOf];omega⟩
  ·obtain rfl:j=E.length:=by omega
   have q1:¬((E.length:Int)<E.length):=by omega
   rw [List.drop_length] at hR;have hR':bL sy0 E=(eh s).map (D++·):=hR;have hP:=oS hI.sq hbd;obtain ⟨z,ds,st',hpp⟩:∃z ds st',pa (.live s)=(z,ds,st'):=⟨_,_,_,rfl⟩
   have hcl:(eh s).isSome=(z == 0)/\(∀l,eh s=some l->ds=l)/\ds.length<=phi s+1:=by
    have hx:pa (.live s)=(match eh s with|none=>(130,[],.live s)|some l=>(0,l,.done)):=rfl;rw [hx] at hpp;cases hc:eh s with
    |none=>
     rw [hc] at hpp;cases hpp;exact ⟨rfl,fun l h=>(nomatch h),Nat.zero_le _⟩
    |some l=>
     rw [hc] at hpp;cases hpp;refine ⟨rfl,fun l' h=>Option.some.inj h,?_⟩
     have h1:ds=s.endl.ws:=by
      unfold eh at hc
      split at hc
      ·exact (Option.some.inj hc).symm
      ·cases hc
     rw [h1];unfold Sy.endl phi
     split
     ·show (dH :: s.ws).length<=_;simp only [List.length_cons];omega
     ·omega
   rw [hpp] at hP;have HP:Hid (Da 14 #[spg g] wr fun rr w'=>∃v,rr=.returned (.tuple #[v,.int .i64 z])/\Aq S g wr w' v ds st'):=hP;have HN:Hid (∀w' x,Aq S g wr w' x ds st'->YJ W g (.slice pv D.length cpv) x D ds st' w'):=fun w' x hx=>hI.call hx
   have HK:Hid ((bL sy0 E).isSome=(z == 0)/\(∀L,bL sy0 E=some L->L=D++ds)/\D.length+ds.length<=12*E.length+12/\D.length+ds.length<=1000000000000):=by
    refine ⟨by rw [hR',Option.isSome_map];exact hcl.1,fun L h=>?_,by have:=hcl.2.2;omega,by have:=hcl.2.2;omega⟩;rw [hR'] at h;obtain ⟨l,e1,e2⟩:=Option.map_eq_some_iff.1 h;rw [<-e2,hcl.2.1 l e1]
   clear hI hR hR' hP hpp hcl hz hn hm HJ HI hbd hEt
   go_wp2_with fail
   refine HP.out.mono ?_;rintro r w6 ⟨x,rfl,hx⟩;have H6:Hid (YJ W g (.slice pv D.length cpv) x D ds st' w6):=HN.out _ _ hx;obtain ⟨px,cx,hxs,_⟩:=aS H6.out.rx;subst hxs;clear hx
   go_wp2_with (at_builtin;refine wZ (by rfl) _ _ (by rfl) (.slice pv D.length cpv) (.slice px ds.length cx) D ds (by rfl) H6.out.rv (by rfl) H6.out.rx HK.out.2.2.2 ?_;intro v3 w7 h3 k3 n3;have H7:Hid (∃S,YI W g v3 (D++ds) st' S w7):=H6.out.fin _ _ h3 k3 n3;obtain ⟨p3,c3,e3,_⟩:=aS h3;rw [List.length_append] at e3;subst e3;clear h3 k3 n3)
   obtain ⟨S7,hI7⟩:=H7.out;obtain ⟨y1,y2,y3,y4⟩:=HK.out;refine bodyPost_ret (v:=.tuple #[.slice p3 (D.length+ds.length) c3,.bool (z == 0)]) (by simp [results,Tryz.f32,go_sem]) rfl ?_;exact ⟨p3,_,c3,by rw [y1],hI7.bel,fun L hL=>by rw [y2 L hL];exact ⟨hI7.rd,fun k e=>(hI7.vB k e).1,by rw [List.length_append];exact y3⟩⟩
def PrP (W:World) (n:Int) (L:List Dc) (r:Ending) (w':World):Prop:=
 ∃p c,r=.returned (.tuple #[.string (Lw.fS n L).1,.slice p L.length c,.bool (decide ((Lw.fS n L).2=0))])/\Rd w' (.slice p L.length c) L/\(∀k,(Value.slice p L.length c).ownBlock=some k->W.heap.size<=k)/\Below W.heap.size W w'
theorem gz (n:Int) (s:ByteArray) (W:World) (hT:Lx.Kab W) (hW:Lw.Tab W) (hs:s.size<=1000000000) (h0:(Lx.scn s).2.1=0) {E:List Ev}{a:Nat}(hl:(stk s).length<=4194304) (hA:Alr (.live [] 0) (stk s) E 0 a)
  (hE:E.length<=8000000) (ht:∀e∈E,e.d.t.size<=9223372036854775807) {L:List Dc} (hL:bL sy0 E=some L) (hd:∀d∈L,d.t.size<=9223372036854775807) (hU:Lw.uds L<=268435456) :
  Da 17 #[.int .i64 n,.string s] W fun r w'=>PrP W n L r w':=by
 have HV:Hid (Da 16 #[.string s] W fun r w'=>∃p c p2 n2 c2,r=.returned (.tuple #[.slice p E.length c,.slice p2 n2 c2,.bool true])/\Lev w' p E/\Db W w'):=by
  refine (fA s W hT hs h0 hl hA).mono ?_;rintro r w' ⟨p,m,c,p2,n2,c2,rfl,hb,hx⟩;obtain ⟨x1,x2,x3⟩:=hx rfl;obtain ⟨p',c',e,_⟩:=x1.shape;cases e;exact ⟨p,c,p2,n2,c2,rfl,AK x1,hb⟩
 have HL:Hid (∀V p c,Lev V p E->Da 32 #[.slice p E.length c] V fun r w'=>∃p c,r=.returned (.tuple #[.slice p L.length c,.bool true])/\Rd w' (.slice p L.length c) L/\Lw.Lay w' p L/\(∀k,(Value.slice p L.length c).ownBlock=some k->V.heap.size<=k)/\Db V w'/\L.length<=100000000):=fun V p c h=>by
  refine (pg E p c V h (by omega) ht).mono ?_;rintro r w' ⟨p,m,c,rfl,hb,hx⟩;obtain ⟨x1,x2,x3⟩:=hx L hL;obtain ⟨p',c',e,_⟩:=aS x1;cases e;obtain ⟨ao,cap,e1,e2,e3,_⟩:=Lw.Lay.row x1 hd;cases e1;exact ⟨p,c,by rw [hL];rfl,x1,e3,x2,hb,by omega⟩
 have HP:Hid (∀V p c,Lw.Lay V p L->L.length<=100000000->Db W V->Da 33 #[.int .i64 n,.slice p L.length c] V fun e w'=>e=.returned (.tuple #[.string (Lw.fS n L).1,.int .i64 (Lw.fS n L).2])/\Db V w'):=fun V p c h h1 hb=>Lw.sy n p L c V h (hW.below hb) h1 hU
 obtain ⟨t,z,hz⟩:∃t z,Lw.fS n L=(t,z):=⟨_,_,rfl⟩;unfold PrP;rw [hz] at HP ⊢;clear hT hW hs h0 hl hA hE ht hL hd hU hz
 go_enter Tryz.func17,Tryz.ntmps17
 go_wp2_with (first
  | (go_at_call 16;refine HV.out.mono ?_;rintro r1 w1 ⟨p1,c1,p2,n2,c2,rfl,hLev,hb1⟩;have HX1:Hid (Lev w1 p1 E/\Db W w1):=⟨hLev,hb1⟩;clear hLev hb1)
  | (go_at_call 32;refine (HL.out _ _ _ HX1.out.1).mono ?_;rintro r2 w2 ⟨p3,c3,rfl,y1,y2,y3,y4,y5⟩;have HX2:Hid (Rd w2 (.slice p3 L.length c3) L/\Lw.Lay w2 p3 L/\(∀k,(Value.slice p3 L.length c3).ownBlock=some k->W.heap.size<=k)/\Db W w2/\L.length<=100000000):=(⟨y1,y2,fun k e=>Nat.le_trans HX1.out.2.size (y3 k e),HX1.out.2.trans (y4.mono HX1.out.2.size),y5⟩);clear y1 y2 y3 y4 y5)
  | (go_at_call 33;refine (HP.out _ _ _ HX2.out.2.1 HX2.out.2.2.2.2 HX2.out.2.2.2.1).mono ?_;rintro r3 w3 ⟨rfl,y6⟩;have HX3:Hid (Db w2 w3):=y6;clear y6))
 refine bodyPost_ret (v:=.tuple #[.string t,.slice p3 L.length c3,.bool (z == 0)]) (by simp [results,Tryz.f17,go_sem]) rfl ?_;have e9:(z == 0)=decide (z=0):=by by_cases q:z=0 <;> simp [q]
 obtain ⟨x1,x2,x3,x4,x5⟩:=HX2.out;exact ⟨p3,c3,by rw [e9],aO x1 HX3.out,x3,x4.trans (HX3.out.mono x4.size)⟩
end Go.Proofs.YtpdlohfdjiaegaaGreatDoor
