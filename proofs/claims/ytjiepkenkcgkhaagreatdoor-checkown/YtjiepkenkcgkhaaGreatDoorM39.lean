import Derived.Test.YtjiepkenkcgkhaaGreatDoorM12
import Derived.Test.YtjiepkenkcgkhaaGreatDoorM38
set_option linter.unusedVariables false
set_option linter.unusedSimpArgs false
namespace Go.Proofs.YtjiepkenkcgkhaaGreatDoor
open Go.RowKit
open Lw (Dc bE rt cy dh eZ ij ji fx puts ik eF ql wI)
def NP (G:List Dc):Prop:=∃A B,G=A++dE :: B/\A.any bD=true
def BF (d:Dc):Bool:=decide (d.k=3)
structure GI (O:List UInt8) (G:List Dc) (a:Nat) (p:Lw.Pr):Prop where
 out:p.sk.out=O++List.replicate a 10
 st:(a=0/\p.sk.fresh=false/\p.en=false)\/(a=1/\p.sk.fresh=true/\p.en=true/\p.sk.wait=0)\/(a=2/\p.sk.fresh=true/\p.en=false/\p.sk.wait=0)
 hd:G.any bD=true->1<=a
 e2:a=2->dE∈G
 he:NP G->a=2
 no:1<=a->G.any bD=true\/G.any BF=true
 gp:G.any bQ=true->1<=a\/1<=p.sk.wait
theorem pq {O:List UInt8}{p:Lw.Pr}(h1:p.sk.out=O) (h2:p.sk.fresh=false) (h3:p.en=false):GI O [] 0 p:=
 ⟨by rw [h1];simp,.inl ⟨rfl,h2,h3⟩,(fun h=>by cases h),(fun h=>by cases h),(fun ⟨A,B,e,_⟩=>by simp at e),(fun h=>by omega),(fun h=>by cases h)⟩
theorem zB {G:List Dc}{d:Dc}(h:NP (G++[d])):NP G\/(d=dE/\G.any bD=true):=by
 obtain ⟨A,B,e,hA⟩:=h
 rcases List.eq_nil_or_concat B with rfl|⟨B',x,rfl⟩
 ·have:=TH e rfl;rw [this.1];injection this.2 with h1
  exact .inr ⟨h1,hA⟩
 ·refine .inl ⟨A,B',?_,hA⟩;have e':G++[d]=(A++dE :: B')++[x]:=by rw [e];simp
  exact (TH e' rfl).1
theorem GI.same {O:List UInt8}{G:List Dc}{a:Nat}{p q:Lw.Pr}(h:GI O G a p) (d:Dc) (h1:q.sk.out=p.sk.out) (h2:q.sk.fresh=p.sk.fresh) (h3:q.en=p.en) (h4:q.sk.wait=p.sk.wait\/(p.sk.fresh=false/\p.sk.wait<=q.sk.wait)) (h5:bD d=true->1<=a) (h6:d=dE->a≠1) (h7:bQ d=true->1<=a\/1<=q.sk.wait):GI O (G++[d]) a q:=by
 refine ⟨by rw [h1];exact h.out,?_,?_,fun e=>Uo _ (h.e2 e),?_,?_,?_⟩
 ·rcases h.st with ⟨x1,x2,x3⟩|⟨x1,x2,x3,x4⟩|⟨x1,x2,x3,x4⟩
  ·exact .inl ⟨x1,by rw [h2,x2],by rw [h3,x3]⟩
  ·rcases h4 with h4|⟨h4,_⟩
   ·exact .inr (.inl ⟨x1,by rw [h2,x2],by rw [h3,x3],by rw [h4,x4]⟩)
   ·rw [x2] at h4;cases h4
  ·rcases h4 with h4|⟨h4,_⟩
   ·exact .inr (.inr ⟨x1,by rw [h2,x2],by rw [h3,x3],by rw [h4,x4]⟩)
   ·rw [x2] at h4;cases h4
 ·intro e;rw [Rk,QY] at e
  rcases e with e|e
  ·exact h.hd e
  ·exact h5 (by simpa using e)
 ·intro e
  rcases zB e with e|⟨e1,e2⟩
  ·exact h.he e
  ·have:=h.hd e2;have:=h6 e1
   rcases h.st with ⟨x1,_⟩|⟨x1,_⟩|⟨x1,_⟩ <;> omega
 ·intro e
  rcases h.no e with x|x
  ·exact .inl (by rw [Rk,x,TT])
  ·exact .inr (by rw [Rk,x,TT])
 ·intro e;rw [Rk,QY] at e
  rcases e with e|e
  ·rcases h.gp e with x|x
   ·exact .inl x
   ·exact .inr (by rcases h4 with h4|⟨_,h4⟩ <;> omega)
  ·exact h7 (by simpa using e)
theorem GI.put {O:List UInt8}{G:List Dc}{a:Nat}{p:Lw.Pr}(h:GI O G a p) {n m:Nat}{d:Dc}(hd:rt d=true) (h1:d.k≠1):∃a',GI O (G++[d]) a' (Lw.put n d m p):=by
 have hold:∀k,bD d=false->d≠dE->(bQ d=true->1<=k)->GI O (G++[d]) a (p.hold k):=by
  intro k n1 n2 n3;unfold Lw.Pr.hold
  split
  ·rename_i hf
   refine h.same d rfl rfl rfl (.inl rfl) (fun e=>by rw [n1] at e;cases e) (fun e=>absurd e n2) (fun _=>?_)
   rcases h.st with ⟨x1,x2,_⟩|⟨x1,_⟩|⟨x1,_⟩
   ·rw [x2] at hf;cases hf
   ·exact .inl (by omega)
   ·exact .inl (by omega)
  ·rename_i hf
   have hf':p.sk.fresh=false:=by simpa using hf
   refine h.same d rfl rfl rfl (.inr ⟨hf',Nat.le_add_right _ _⟩) (fun e=>by rw [n1] at e;cases e) (fun e=>absurd e n2) (fun e=>.inr ?_);show 1<=p.sk.wait+k;have:=n3 e;omega
 have endl:d≠dE->(bD d=true\/BF d=true)->∃a',GI O (G++[d]) a' p.endl:=by
  intro n2 n3;unfold Lw.Pr.endl
  split
  ·rename_i hf
   have ha:1<=a:=by
    rcases h.st with ⟨x1,x2,_⟩|⟨x1,_⟩|⟨x1,_⟩
    ·rw [x2] at hf;cases hf
    ·omega
    ·omega
   exact ⟨a,h.same d rfl rfl rfl (.inl rfl) (fun _=>ha) (fun e=>absurd e n2) (fun _=>.inl ha)⟩
  ·rename_i hf
   have hf':p.sk.fresh=false:=by simpa using hf
   have ha:a=0:=by
    rcases h.st with ⟨x1,_⟩|⟨_,x2,_⟩|⟨_,x2,_⟩
    ·exact x1
    ·rw [x2] at hf';cases hf'
    ·rw [x2] at hf';cases hf'
   subst ha;refine ⟨1,?_,.inr (.inl ⟨rfl,rfl,rfl,rfl⟩),fun _=>gt _,(fun e=>by cases e),?_,?_,fun _=>.inl (gt _)⟩
   ·show p.sk.out++[10]=_
    rw [h.out];simp
   ·intro e
    rcases zB e with e|⟨e1,_⟩
    ·exact absurd (h.he e) (by decide)
    ·exact absurd e1 n2
   ·intro _
    rcases n3 with x|x
    ·exact .inl (by rw [Rk];simp [x])
    ·exact .inr (by rw [Rk];simp [x])
 cases Lw.mj hd with
 |text t hq=>exact absurd rfl h1
 |brk k hq=>
  show ∃a',GI O _ a' (if p.brk n m then p.endl else p.hold k.toNat)
  split
  ·exact endl (fun e=>by cases e) (.inr rfl)
  ·refine ⟨a,hold _ rfl (fun e=>by cases e) (fun e=>?_)⟩;have hk:(⟨3,bE,k,0,false⟩:Dc)=dB 1:=by simpa [bQ] using e
   injection hk with _ _ hk
   rw [hk];decide
 |beg k e hq=>
  refine ⟨a,h.same _ rfl rfl rfl (.inl rfl) (fun e=>by cases e) (fun e=>by cases e) (fun e=>?_)⟩;simp [bQ,dB] at e
 |blank=>exact ⟨a,hold 1 rfl (fun e=>by cases e) (fun _=>gt _)⟩
 |hard=>exact endl (fun e=>by cases e) (.inl rfl)
 |empty=>
  show ∃a',GI O _ a' (if p.en then { p with sk:=p.sk.empty,en:=false } else p)
  split
  ·rename_i he
   have hx:a=1/\p.sk.fresh=true/\p.sk.wait=0:=by
    rcases h.st with ⟨_,_,x3⟩|⟨x1,x2,_,x4⟩|⟨_,_,x3,_⟩
    ·rw [x3] at he;cases he
    ·exact ⟨x1,x2,x4⟩
    ·rw [x3] at he;cases he
   obtain ⟨rfl,hf,hw⟩:=hx;have hem:p.sk.empty=p.sk.feed p.sk.col:=by unfold fx.empty;rw [IO hf]
   refine ⟨2,?_,.inr (.inr ⟨rfl,?_,rfl,?_⟩),fun _=>by omega,fun _=>RX _ (Sw.2 rfl),fun _=>rfl,?_,fun _=>.inl (by omega)⟩
   ·show p.sk.empty.out=_
    rw [hem];show p.sk.out++[10]=_;rw [h.out];simp [List.replicate]
   ·show p.sk.empty.fresh=true;rw [hem];rfl
   ·show p.sk.empty.wait=0;rw [hem];rfl
   ·intro _
    rcases h.no (gt _) with x|x
    ·exact .inl (by rw [Rk,x,TT])
    ·exact .inr (by rw [Rk,x,TT])
  ·rename_i he
   refine ⟨a,h.same _ rfl rfl rfl (.inl rfl) (fun e=>by cases e) (fun _ e=>?_) (fun e=>by simp [bQ,dB] at e)⟩
   rcases h.st with ⟨x1,_⟩|⟨_,_,x3,_⟩|⟨x1,_⟩
   ·omega
   ·exact he x3
   ·omega
 | «end»=>exact ⟨a,h.same _ rfl rfl rfl (.inl rfl) (fun e=>by cases e) (fun e=>by cases e) (fun e=>by simp [bQ,dB] at e)⟩
theorem GI.puts {O:List UInt8}{n:Nat}:∀(P:List Dc) (ms:List Nat) {G:List Dc}{a:Nat}{p:Lw.Pr},GI O G a p->(∀d∈P,rt d=true/\d.k≠1)->P.length=ms.length->∃a',GI O (G++P) a' (Lw.puts n P ms p)
 |[],[],G,a,p,h,_,_=>⟨a,by rw [Rx];exact h⟩
 |d :: P,m :: ms,G,a,p,h,hr,hl=>by
  obtain ⟨a1,h1⟩:=h.put (n:=n) (m:=m) (hr d (QN ..)).1 (hr d (QN ..)).2;obtain ⟨a2,h2⟩:=GI.puts P ms h1 (fun x hx=>hr x (QO _ hx)) (by simpa using hl);exact ⟨a2,by rw [QM] at h2;exact h2⟩
structure GP (G:List Dc) (a b:Nat):Prop where
 le:a<=2
 hd:G.any bD=true->1<=a
 e2:a=2->dE∈G
 he:NP G->a=2
 no:1<=a->G.any bD=true\/G.any BF=true
 gp:G.any bQ=true->1<=a\/1<=b
theorem lD {s:fx}{t:ByteArray}(ht:t.size≠0):(s.text t).out=s.out++((if s.fresh then List.replicate s.col 32 else [])++(List.replicate s.wait 32++ji t)):=by
 unfold fx.text;rw [Eq ht];rfl
theorem GI.text {O:List UInt8}{G:List Dc}{a:Nat}{p:Lw.Pr}(h:GI O G a p) {n m:Nat}{t:ByteArray}(ht:t.size≠0):∃b,GP G a b/\GI (O++(List.replicate a 10++(List.replicate b 32++ji t))) [] 0 (Lw.put n (dT t) m p):=by
 have e:(Lw.put n (dT t) m p)={ p with sk:=p.sk.text t,en:=false }:=rfl;have hf:(p.sk.text t).fresh=false:=by unfold fx.text;rw [Eq ht]
 have hgp:∀b,(1<=p.sk.wait->1<=b)->GP G a b:=fun b hb=>⟨by rcases h.st with ⟨x,_⟩|⟨x,_⟩|⟨x,_⟩ <;> omega,h.hd,h.e2,h.he,h.no,fun x=>(h.gp x).imp id hb⟩
 cases hfr:p.sk.fresh with
 |false=>
  refine ⟨p.sk.wait,hgp _ id,?_⟩;rw [e];refine pq ?_ hf rfl;show (p.sk.text t).out=_;rw [lD ht,hfr,h.out];simp
 |true=>
  refine ⟨p.sk.col+p.sk.wait,hgp _ (fun x=>by omega),?_⟩;rw [e];refine pq ?_ hf rfl;show (p.sk.text t).out=_;rw [lD ht,hfr,h.out,<-List.replicate_append_replicate,IO rfl];simp only [QM]
end Go.Proofs.YtjiepkenkcgkhaaGreatDoor
namespace Go.Proofs.YtjiepkenkcgkhaaGreatDoor
open Go.RowKit
open Lw (Dc bE rt cy dh eZ ij)
variable {s:Sy}{n:Int}{t t':Tv}{K:List It}{c:Cl}{o:List Ev}{l:List Pz}{u:Option Tv}
def Gw.nb:Gw->Prop
 |.ref=>True
 |.ex r=>∀n,Cq cN n false r=true
 |.op nd r=>fi nd=false/\Cq cN nd false r=true
theorem LT (t:Tv) (m:M) (h:cN.mB m=true):(M.row t m).nb:=by
 cases m with
 |kind=>
  simp only [M.row]
  repeat' split
  all_goals first|exact ⟨rfl,rfl⟩|trivial
 |factor=>
  simp only [M.row]
  repeat' split
  all_goals first|exact ⟨rfl,rfl⟩|trivial|exact fun n=>rfl
 |typed=>exact fun n=>rfl
 |list=>exact fun n=>rfl
 |variables=>cases h
 |constants=>cases h
 |procedure=>cases h
 |member=>cases h
 |statement=>cases h
 |body=>cases h
 |block=>cases h
 |_=>exact ⟨rfl,rfl⟩
theorem wB {r:List It}{z:Bool}(h:Cq c n false r=true):Cq c n z r=true:=by
 induction r with
 |nil=>cases h
 |cons i r ih=>
  simp only [Cq,QR,QY] at h ⊢;exact ⟨h.1,h.2.imp id ih⟩
theorem Qp {k:Nat}{E:List Ev}{R:Ro}(h:Ru t k K n E R):∀{L:List It}{m:Int}{F:List Ev},R=.yes L m F->jQ K->fo cN K=true->∃o,F=E++o/\∀e∈o,e.k=1->fi e.n=false:=by
 induction h with
 |nil=>intro L m F h;cases h
 |ref _=>intro L m F h;cases h
 |tk hs=>intro L m F h _ _;cases h;exact ⟨[],by simp,fun e he=>by simp at he⟩
 |go hs _ ih=>
  rename_i k i K n d E o r R _
  intro L m F h hw hbar;have hi:=hw i (QN ..);have hw2:=fD (fF (K:=K) hs hi).1 (fun j hj=>hw j (QO _ hj));simp only [fo,QR,QY,SI] at hbar;obtain ⟨hba,hnul⟩:=hbar
  have go:(∀e∈o,e.k=1->fi e.n=false)->fo cN (r++K)=true->∃o,F=E++o/\∀e∈o,e.k=1->fi e.n=false:=by
   intro h1 h2;obtain ⟨o2,b1,b2⟩:=ih h hw2 h2;exact ⟨o++o2,by rw [b1,QM],fun e he=>(Q6.1 he).elim (h1 e) (b2 e)⟩
  have nilO:∀e∈([]:List Ev),e.k=1->fi e.n=false:=fun e he=>by simp at he
  have picks:∀(p:Pk) (j:It) (K':List It),aQ K'=aQ K->Pk.pick t p=some j->p.ba cN (aQ K)=true->fo cN (j :: K')=true:=by
   intro p j K' eK hp hpb;cases p with
   |fn dk=>
    simp only [Pk.pick,Q9] at hp;obtain ⟨mm,hm,rfl⟩:=hp;show (cN.mB mm && (!false || _))=true
    have:cN.mB mm=true:=by
     cases dk with
     |declaration=>cases hpb
     |bracket=>simp only [Dk.pick] at hm;split at hm <;> cases hm;rfl
     |detail=>
      simp only [Dk.pick] at hm
      split at hm
      ·cases hm;rfl
      ·split at hm
       ·cases hm;rfl
       ·split at hm <;> cases hm;rfl
    rw [this];rfl
   |row rr=>
    simp only [Pk.pick] at hp
    split at hp
    ·cases hp;show (K7 cN (aQ K') rr && (!false || _))=true;rw [eK,show K7 cN (aQ K) rr=true from hpb];rfl
    ·cases hp
   |ex mm=>
    simp only [Pk.pick] at hp
    split at hp
    ·cases hp
    ·cases hp;have:cN.mB mm=true:=by cases mm <;> first|rfl|cases hpb
     show (cN.mB mm && (!false || _))=true
     rw [this];rfl
  cases i with
  |fl x=>
   have hm:∃m,x=.mt m:=by
    cases x with
    |mt m=>exact ⟨m,rfl⟩
    |_=>simp only [It.step,Fl.step] at hs;split at hs <;> cases hs
   obtain ⟨m,rfl⟩:=hm;have hnb:=LT t m hba;have hr:=gV t m;simp only [It.step,Fl.step] at hs;cases hrow:M.row t m with
   |ref=>rw [hrow] at hs;cases hs
   |ex r'=>
    rw [hrow] at hs hnb hr;cases hs;exact go nilO (by rw [kU cN hr.2.2];exact wB (hnb _))
   |op nd r'=>
    rw [hrow] at hs hnb hr;cases hs;refine go (fun e he _=>by simp at he;subst he;exact hnb.1) ?_;rw [QM,kU cN hr.2.2.1];exact wB hnb.2
  |lv a=>
   cases hs;refine go (fun e he h1=>by simp at he;subst he;cases h1) ?_
   rcases hnul with h1|h1
   ·cases h1
   ·exact h1
  |once p=>
   simp only [It.step] at hs;cases hp:Pk.pick t p with
   |none=>
    rw [hp] at hs;cases hs;refine go nilO ?_
    rcases hnul with h1|h1
    ·cases h1
    ·exact h1
   |some j=>rw [hp] at hs;cases hs;exact go nilO (picks p j K rfl hp hba)
  |again p=>
   simp only [It.step] at hs;cases hp:Pk.pick t p with
   |none=>
    rw [hp] at hs;cases hs;refine go nilO ?_
    rcases hnul with h1|h1
    ·cases h1
    ·exact h1
   |some j=>rw [hp] at hs;cases hs;exact go nilO (picks p j (.again p :: K) rfl hp hba)
  |all rr=>
   cases hs;refine go nilO ?_;rw [kU cN (jS rr)];have hb:K7 cN (aQ K) rr=true:=hba;cases rr with
   |nil=>cases hb
   |cons x rr=>show (x.ba cN (aQ K) && (!false || _))=true;rw [show x.ba cN (aQ K)=true from hb];rfl
def GN (s:Sy):Prop:=∀m,s.mr=some m->m<=s.ws.length/\(s.ws.take m).any bD=true
theorem nv {s u:Sy}(h:GN s) (hm:u.mr=s.mr) (hp:s.ws <+: u.ws):GN u:=by
 intro m e;rw [hm] at e;obtain ⟨h1,h2⟩:=h m e;obtain ⟨r,hr⟩:=hp;refine ⟨by rw [<-hr,Or];omega,?_⟩;rw [<-hr,RH h1];exact h2
theorem Bt (h:GN s) (k:Int) (hk:s.ws.any bD=true\/fi k=false):GN (s.opens k):=by
 obtain ⟨s1,hs1⟩:∃s1,(if k=21 then s.exprIn else s)=s1:=⟨_,rfl⟩
 have h1:s1.mr=s.mr/\s.ws <+: s1.ws:=by
  rw [<-hs1];split
  ·exact ⟨(gZ s).2.2.1,pM s⟩
  ·exact ⟨rfl,Sf⟩
 have h2:GN (s1.mark k):=by
  unfold Sy.mark
  split
  ·rename_i hc
   intro m e;cases e;refine ⟨gt _,?_⟩;show (s1.ws.take s1.ws.length).any bD=true;rw [RQ]
   rcases hk with hk|hk
   ·exact ib h1.2 hk
   ·rw [hk] at hc;cases hc.1
  ·exact nv h h1.1 h1.2
 unfold Sy.opens;simp only;rw [hs1];exact nv (s:=s1.mark k) h2 (fI { (s1.mark k) with ns:=⟨k,0,false⟩ :: (s1.mark k).ns } (qm k)).2.2.1 (fN { (s1.mark k) with ns:=⟨k,0,false⟩ :: (s1.mark k).ns } (qm k))
theorem Eu (hB:nY o):∀{s:Sy},GN s->(s.ws.any bD=true\/∀e∈o,e.k=1->fi e.n=false)->GN (aK s o):=by
 induction o with
 |nil=>intro s h _;exact h
 |cons e o ih=>
  intro s h hk;rw [cA];have hB':nY o:=fun x hx=>hB x (QO _ hx)
  have hk':∀u:Sy,s.ws <+: u.ws->(u.ws.any bD=true\/∀e∈o,e.k=1->fi e.n=false):=fun u hu=>hk.imp (ib hu) (fun hh x hx=>hh x (QO _ hx))
  rcases hB e (QN ..) with h2|h2
  ·rw [cF s h2];exact ih hB' (Bt h e.n (hk.imp id (fun hh=>hh e (QN ..) h2))) (hk' _ (qS s _))
  ·rw [cz s h2];refine ih hB' (nv h ?_ (g8 s)) (hk' _ (g8 s));unfold Sy.leaves;split <;> rfl
def wA (t:Tv):Prop:=t.k=1\/t.k=2\/t.k=3
def Gg (t:Tv):Prop:=t.k=6/\t.t.data.toList.head?.elim false mT.contains=true
theorem M6:cW.Dyn wA:=by
 refine ⟨?_,?_,?_,?_,fun _=>rfl⟩
 ·intro n k x t h hb h1 h2;subst h1 h2;have h':(decide (t.k=6) || lu n t.k t.t)=true:=h;rw [QY] at h'
  rcases h' with h'|h'
  ·have:=Rm h'
   rcases hb with hb|hb|hb <;> omega
  ·exact h'
 ·intro h;cases h
 ·intro d h;refine ⟨(fun e=>by subst e;cases h),fun t hb e=>?_⟩
  rcases hb with hb|hb|hb <;> omega
 ·intro n m h;exact Rm h
theorem M7:cD.Dyn Gg:=by
 refine ⟨?_,?_,?_,?_,fun _=>rfl⟩
 ·intro n k x t h hb h1 h2;subst h1 h2;have h':(!(decide (t.k=6) && (t.t.data.toList.head?.elim false mT.contains)) || lu n t.k t.t)=true:=h;rw [QW hb.1,hb.2] at h'
  simpa using h'
 ·intro _ t hb;have:=hb.1;omega
 ·intro d h;cases h
 ·intro n m h;cases h
def gE (t:Tv):Prop:=t.k=7\/t.k=8
def yB (t:Tv):Prop:=t.k=6/\Df.contains t.t.data.toList=true
structure PI (K:List It) (n:Int) (s:Sy):Prop where
 gd:fX (.live K n)
 ks:s.ks=bJ K
 mr:s.mr=none
 ne:∀d∈s.ws,d≠dE
 sn:∃L,eL L s
 oW:mJ cW K=true
 oD:mJ cD K=true
 oN:mJ cN K=true
 nH:s.ws.any bD=true\/fo cN (beg K n)=true
def LI (u:Option Tv) (K:List It) (n:Int) (s:Sy):Prop:=match u with
 |none=>s.wr=false
 |some u=>s.wr=true/\(u.k=7->s.en=true)/\(¬gE u->(s.ws.any bQ=true\/(wA u->fo cW (beg K n)=true))/\(s.ws.any bQ=true\/(yB u->fo cD (beg K n)=true)))
structure CP (u:Option Tv) (G:List Dc) (t:Tv):Prop where
 fine:∀d∈G,rt d=true/\d.k≠1
 hb:dE∈G->NP G
 nb:gE t->G.any BF=false
 nf:gE t->u≠none->(t.f=0↔G.any bD=false)
 l7:∀x,u=some x->x.k=7->G.any bD=true
 lN:∀x,u=some x->¬gE x->gE t->G.any bQ=true
 lL:∀x,u=some x->¬gE x->¬gE t->G.any bQ=true\/(¬(wA x/\wA t)/\¬(yB x/\Gg t))
theorem F9 (h:PI K n s):mJ cW (beg K n)=true/\mJ cD (beg K n)=true/\mJ cN (beg K n)=true:=by
 unfold beg
 split
 ·have hK:K=[]:=by
   rename_i hn
   have hn':n=0:=by simpa using hn
   rcases h.gd.2 with h2|h2
   ·exact h2.2
   ·have:=iT h2;have:=h.gd.1.lv;omega
  rw [hK];exact IA
 ·exact ⟨h.oW,h.oD,h.oN⟩
theorem Gb (h:n≠0):beg K n=K:=by unfold beg;rw [Eq (by simpa using h)]
theorem wy (h:PI K n s):(aK s (bK n)).ks=bJ (beg K n)/\(aK s (bK n)).ws=s.ws/\(aK s (bK n)).mr=none/\(aK s (bK n)).en=s.en/\(aK s (bK n)).wr=s.wr/\(aK s (bK n)).pt=s.pt/\(∃L,eL L (aK s (bK n))):=by
 obtain ⟨b1,b2,b3,b4,b5,hbot,hbn,hbe⟩:=cG h.gd;obtain ⟨c1,c2⟩:=jz n;obtain ⟨f1,f2,f3⟩:=mh c1 s;have hk:=(kf c1 c2 s (l:=bJ (beg K n)) (by rw [h.ks];exact b4)).2;obtain ⟨L,hL⟩:=h.sn
 have hws:(aK s (bK n)).ws=s.ws/\(aK s (bK n)).mr=s.mr:=by
  unfold bK
  split
  ·show (s.step ⟨1,1,aB⟩).1.ws=s.ws/\(s.step ⟨1,1,aB⟩).1.mr=s.mr
   rw [cF s rfl];exact ⟨rfl,rfl⟩
  ·exact ⟨rfl,rfl⟩
 exact ⟨hk,hws.1,hws.2.trans h.mr,f1,f3,f2,L,uq c1 hL⟩
theorem lw (hc:c.Ok) {t:Tv}{k:Nat}{K:List It}{n:Int}{E:List Ev}{R:Ro}(h:Ru t k K n E R):∀{L:List It}{m:Int}{F:List Ev},R=.yes L m F->mJ c K=true->mJ c L=true/\∃x:Fl,x.takes t=true/\(x.en c (aQ L)=true->fo c L=true):=by
 induction h with
 |nil=>intro L m F h;cases h
 |ref _=>intro L m F h;cases h
 |tk hs=>
  rename_i i K n E
  intro L m F h hk;cases h
  obtain ⟨x,rfl,hx⟩:∃x,i=.fl x/\x.takes t=true:=by
   cases i with
   |fl x=>
    refine ⟨x,rfl,?_⟩;cases x with
    |mt m=>exfalso;simp only [It.step,Fl.step] at hs;cases hrow:M.row t m <;> rw [hrow] at hs <;> cases hs
    |_=>simp only [It.step,Fl.step] at hs;split at hs;assumption;cases hs
   |_=>cases hs
  simp only [mJ,QR,QY,SI] at hk;refine ⟨hk.2,x,hx,fun e=>?_⟩
  rcases hk.1.2 with h1|h1
  ·rw [show (It.fl x).en c (aQ K)=x.en c (aQ K) from rfl,e] at h1;cases h1
  ·exact h1
 |go hs _ ih=>
  intro L m F h hk;exact ih h (Dd c hc hs hk)
theorem tM {p:Pz}(hp:p≠.X):∀(l:List Pz) (s:Sy),p∈l->p.d∈(s.aws l).ws
 |q :: l,s,h=>by
  rw [bZ]
  rcases Rg.1 h with rfl|h
  ·have:p.d∈(s.aw p).ws:=by
    rw [ru];refine RX _ ?_;unfold jB;rw [Eq (fun hh=>hp hh.1)];exact Sw.2 rfl
   exact (fN _ l).subset this
  ·exact tM hp l _ h
theorem Ai (s:Sy) (h:l.any qi=true):(s.aws l).ws.any bQ=true:=by
 obtain ⟨p,h1,h2⟩:=Sj.1 h;have hx:p≠.X:=fun e=>by subst e;cases h2
 refine Sj.2 ⟨p.d,tM hx l s h1,?_⟩;cases p <;> first|(cases h2;done)|rfl
theorem Kg (s:Sy) (h:l.any xE=true):(s.aws l).ws.any bD=true:=by
 obtain ⟨p,h1,h2⟩:=Sj.1 h;have hx:p=.H:=Rm h2;subst hx;exact Sj.2 ⟨_,tM (by decide) l s h1,rfl⟩
theorem qK {f:Dc->Bool}{a:Fx}(fd:Int) (h:(s.aws a.pz).ws.any f=true):(s.ready a fd).ws.any f=true:=by
 have h1:((s.aws a.pz).emp fd).ws.any f=true:=by
  unfold Sy.emp
  split
  ·exact h
  ·split
   ·exact h
   ·rename_i m _ _
    show ((s.aws a.pz).ws.take m++dE :: (s.aws a.pz).ws.drop m).any f=true
    rw [<-RJ m (s.aws a.pz).ws,Rk,QY] at h;rw [Rk,Ur,QY,QY];exact h.imp id .inr
 have h2:((s.aws a.pz).emp fd).endl.ws.any f=true:=by
  unfold Sy.endl
  split
  ·show (dH :: ((s.aws a.pz).emp fd).ws).any f=true
   rw [Ur,h1,Bool.or_true]
  ·exact h1
 unfold Sy.ready
 generalize ((s.aws a.pz).emp fd).endl=u at h2
 unfold Sy.part
 split
 ·show (u.ws++[dS]).any f=true
  rw [Rk,h2,TT]
 ·exact h2
def NE (s:Sy):Prop:=∀d∈s.ws,d≠dE
theorem Od (p:Pz):p.d≠dE:=by cases p <;> (intro h;cases h)
theorem NE.aws {s:Sy}(h:NE s) (l:List Pz):NE (s.aws l):=by
 induction l generalizing s with
 |nil=>exact h
 |cons p l ih=>
  rw [bZ];refine ih (fun d hd=>?_);rw [ru] at hd
  rcases Q6.1 hd with hd|hd
  ·exact h d hd
  ·unfold jB at hd
   split at hd
   ·cases hd
   ·rw [Sw] at hd;rw [hd];exact Od p
theorem NE.exprIn (h:NE s):NE s.exprIn:=by
 unfold Sy.exprIn
 split
 ·exact h
 ·rename_i n r e
  show ∀d∈(if n.k=19 then s.aws [.S,.I 3] else if n.k=31/\n.s=false then s.aws [.B0] else s).ws,d≠dE
  split
  ·exact h.aws _
  ·split
   ·exact h.aws _
   ·exact h
theorem NE.opens (h:NE s) (k:Int):NE (s.opens k):=by
 unfold Sy.opens;simp only;refine NE.aws (s:={ ((if k=21 then s.exprIn else s).mark k) with ns:=⟨k,0,false⟩ :: ((if k=21 then s.exprIn else s).mark k).ns }) ?_ _;intro d hd;have hd':d∈((if k=21 then s.exprIn else s).mark k).ws:=hd;rw [sD] at hd'
 split at hd'
 ·exact h.exprIn d hd'
 ·exact h d hd'
theorem NE.leaves (h:NE s):NE s.leaves:=by
 unfold Sy.leaves
 split
 ·exact h
 ·intro d hd;have hd':d∈s.ws++List.replicate _ dX++(if _ then [dH] else []):=hd
  rcases Q6.1 hd' with hd|hd
  ·rcases Q6.1 hd with hd|hd
   ·exact h d hd
   ·rw [List.eq_of_mem_replicate hd];intro e;cases e
  ·split at hd
   ·rw [Sw] at hd;rw [hd];intro e;cases e
   ·cases hd
theorem NE.fold (hB:nY o):∀{s:Sy},NE s->NE (aK s o):=by
 induction o with
 |nil=>intro s h;exact h
 |cons e o ih=>
  intro s h;rw [cA];refine ih (fun x hx=>hB x (QO _ hx)) ?_
  rcases hB e (QN ..) with h2|h2
  ·rw [cF s h2];exact h.opens e.n
  ·rw [cz s h2];exact h.leaves
theorem A4 (hn:NE s) (hm:GN s) (a:Fx) (f:Int):(dE∈(s.ready a f).ws->NP (s.ready a f).ws)/\∀f',(s.wr=true->(2<=f'↔dE∈(s.ready a f).ws))->s.ready a f'=s.ready a f:=by
 obtain ⟨v,hv⟩:∃v,s.aws a.pz=v:=⟨_,rfl⟩;have hnv:NE v:=by rw [<-hv];exact hn.aws _
 have hmv:GN v:=by rw [<-hv];exact nv hm (fI s a.pz).2.2.1 (fN s _)
 have hwv:v.wr=s.wr:=by
  rw [<-hv]
  have haw:∀(l:List Pz) (s:Sy),(s.aws l).wr=s.wr:=by
   intro l
   induction l with
   |nil=>intro s;rfl
   |cons p l ih=>intro s;rw [bZ];exact ih (s.aw p)
  exact haw _ _
 have tl:∀u:Sy,∃x y:List Dc,u.endl.part.ws=x++(u.ws++y)/\dE∉x/\dE∉y:=by
  intro u
  have h1:∃x,u.endl.ws=x++u.ws/\dE∉x:=by
   unfold Sy.endl
   split
   ·exact ⟨[dH],rfl,by intro h;simp at h;cases h⟩
   ·exact ⟨[],rfl,by simp⟩
  obtain ⟨x,hx,hx2⟩:=h1;unfold Sy.part
  split
  ·exact ⟨x,[dS],by show u.endl.ws++[dS]=_;rw [hx,QM],hx2,by intro h;simp at h;cases h⟩
  ·exact ⟨x,[],by rw [hx,Rx],hx2,by simp⟩
 unfold Sy.ready;rw [hv]
 by_cases hc:∃m,v.mr=some m/\v.wr=true/\(v.ws.take m).any be=false
 ·obtain ⟨m,hm1,hm2,hm3⟩:=hc
  have hemp:∀f,v.emp f=if f<2 then v else { v with ws:=v.ws.take m++dE :: v.ws.drop m }:=by
   intro f;unfold Sy.emp;rw [hm1];show (if f<2\/v.wr=false\/(v.ws.take m).any be=true then v else _)=_
   by_cases hf:f<2
   ·rw [IO (.inl hf),IO hf]
   ·grind
  have mem:∀f,dE∈(v.emp f).endl.part.ws↔2<=f:=by
   intro f;obtain ⟨x,y,e,hx,hy⟩:=tl (v.emp f);rw [e,hemp f]
   by_cases hf:f<2
   ·rw [IO hf];constructor
    ·intro h
     rcases Q6.1 h with h|h
     ·exact absurd h hx
     ·rcases Q6.1 h with h|h
      ·exact absurd rfl (hnv dE h)
      ·exact absurd h hy
    ·intro h;omega
   ·grind
  refine ⟨fun h=>?_,fun f' h=>?_⟩
  ·have hf:=(mem f).1 h;obtain ⟨x,y,e,hx,hy⟩:=tl (v.emp f);rw [e,hemp f,Eq (by omega)];refine ⟨x++v.ws.take m,v.ws.drop m++y,by simp,?_⟩;rw [Rk,(hmv m hm1).2,Bool.or_true]
  ·grind
 ·have hemp:∀f,v.emp f=v:=by
   intro f;unfold Sy.emp
   split
   ·rfl
   ·grind
  refine ⟨fun h=>?_,fun f' _=>by rw [hemp f',hemp f]⟩
  exfalso
  obtain ⟨x,y,e,hx,hy⟩:=tl (v.emp f);rw [e,hemp f] at h
  rcases Q6.1 h with h|h
  ·exact hx h
  ·rcases Q6.1 h with h|h
   ·exact hnv dE h rfl
   ·exact hy h
theorem wZ {L:List Dc}(h:eL L s):∀d∈s.ws,rt d=true:=by
 have:∀(l:List Dc) (o x:Int),je o l=some x->∀d∈l,rt d=true:=by
  intro l
  induction l with
  |nil=>intro o x _ d hd;cases hd
  |cons a l ih=>
   intro o x h d hd;simp only [je] at h
   split at h
   ·rename_i hc
    rcases Rg.1 hd with rfl|hd
    ·exact hc.1
    ·exact ih _ _ h d hd
   ·cases h
 exact fun d hd=>this _ _ _ h.r d (RX _ hd)
theorem ow {x:Fl}(ht:x.takes t=true) {n:Int}(h1:c.tE n t.k t.t=true) (h2:t.k=1\/t.k=3\/t.k=4\/t.k=5->c.nE=true):x.en c n=true:=by
 cases x with
 |wd k ts=>
  simp only [Fl.takes,QR,RM] at ht;obtain ⟨y,e1,e2⟩:=Sj.1 ht.2;have e3:t.t=y:=Rm e2;exact Sj.2 ⟨y,e1,by rw [<-ht.1,<-e3];exact h1⟩
 |nm=>simp only [Fl.takes,RM] at ht;exact h2 (.inl ht)
 |cs=>
  simp only [Fl.takes,QY,RM] at ht;refine h2 ?_
  rcases ht with (ht|ht)|ht
  ·exact .inr (.inl ht)
  ·exact .inr (.inr (.inl ht))
  ·exact .inr (.inr (.inr ht))
 |mt m=>cases ht
theorem BB (hP:PI K n s) (hL:LI u K n s) (hc:¬gE t) {kk:Nat}{L:List It}{m:Int}{E:List Ev}(hR:Ru t kk (beg K n) (gh n) (bK n) (.yes L m E)) (hg:fX (.live L m)) (hrt:eZ t.t=true) :
  ∃G,((aK s E).leaf t).2=G++[dT t.t]/\CP u G t/\PI L m ((aK s E).leaf t).1/\LI (some t) L m ((aK s E).leaf t).1/\∀t':Tv,t'.k=t.k->t'.t=t.t->(u≠none->(2<=t'.f↔dE∈G))->(aK s E).leaf t'=(aK s E).leaf t:=by
 obtain ⟨b1,b2,b3,b4,b5,hbot,hbn,hbe⟩:=cG hP.gd;obtain ⟨k0,k1,k2,k3,k4,k5,L0,hS0⟩:=wy hP;obtain ⟨c1,c2⟩:=jz n;obtain ⟨oW,oD,oN⟩:=F9 hP;obtain ⟨d1,d2,d3,o,d4,d5,d6,d7⟩:=eu hR rfl b1 b2 b3;have hB:nY o:=fun e he=>(d6 e he).2.1
 have hnod:∀e∈o,e.k=1->1<=e.n/\e.n<=32:=fun e he=>oG hR rfl c2 e (by rw [d4];exact RX _ he)
 obtain ⟨s0,hs0⟩:∃s0,aK s (bK n)=s0:=⟨_,rfl⟩;rw [hs0] at k0 k1 k2 k3 k4 k5 hS0;have hfold:aK s E=aK s0 o:=by rw [d4,qI,hs0]
 rw [hfold];obtain ⟨f1,f2,f3⟩:=mh hB s0;have hks:=(kf hB hnod s0 (l:=bJ L) (by rw [k0];exact d5)).2;have hS1:=uq hB hS0;have hNE:NE (aK s0 o):=NE.fold hB (show NE s0 by unfold NE;rw [k1];exact hP.ne)
 have hMk:GN (aK s0 o):=by
  refine Eu hB (fun m hm=>by rw [k2] at hm;cases hm) ?_
  rcases hP.nH with h|h
  ·exact .inl (by rw [k1];exact h)
  ·obtain ⟨o2,e1,e2⟩:=Qp hR rfl b1 h;rw [d4] at e1;have:=R5 e1;subst this;exact .inr e2
 have dW:∀(c:Cl) (bad:Tv->Prop),c.Dyn bad->bad t->fo c (beg K n)=true->(aK s0 o).ws.any bQ=true\/lu (aQ L) t.k t.t=true:=by
  intro c bad hd hb hbar;obtain ⟨o2,e1,_,_,e4⟩:=dyn hd hb hR rfl b1 b2 b3 hbar s0 k0;rw [d4] at e1;have:=R5 e1;subst this;exact e4
 have hpre:=qH hB s0;obtain ⟨s1,hs1⟩:∃s1,aK s0 o=s1:=⟨_,rfl⟩;rw [hs1] at f1 f2 f3 hks hS1 hNE hMk dW hpre ⊢;have hlen:=iT (oI hR rfl hbot)
 obtain ⟨n0,r0,hns⟩:∃n0 r0,s1.ns=n0 :: r0:=by
  cases hc:s1.ns with
  |nil=>unfold Sy.ks at hks;rw [hc] at hks;rw [<-hks] at hlen;exact absurd hlen (by decide)
  |cons a b=>exact ⟨a,b,rfl⟩
 have hne:s1.ns≠[]:=by rw [hns];exact Vb _ _
 have hnk:n0.k=aQ L:=by rw [qT,<-hks];unfold Sy.ks;rw [hns];rfl
 have hlf:∀t:Tv,s1.leaf t=((s1.ready (aG n0 t).a t.f).after (aG n0 t).b,(s1.ready (aG n0 t).a t.f).ws++[dT t.t]):=by
  intro t;unfold Sy.leaf;rw [hns]
 obtain ⟨hSn,_,hkn⟩:=hS1.leaf hne t hrt;obtain ⟨r1,r2⟩:=A4 hNE hMk (aG n0 t).a t.f;have hSr:eL L0 (s1.ready (aG n0 t).a t.f):=((((hS1.aws hne _ (sO _)).emp t.f).endl).part);obtain ⟨G,hG⟩:∃G,(s1.ready (aG n0 t).a t.f).ws=G:=⟨_,rfl⟩;have hgpre:∀f:Dc->Bool,s1.ws.any f=true->G.any f=true:=fun f h=>by rw [<-hG];exact qK t.f (ib (fN _ _) h)
 have hgsep:lu (aQ L) t.k t.t=true->G.any bQ=true:=fun h=>by
  rw [<-hG];refine qK t.f (Ai _ (Ia ?_));rw [hnk];exact h
 have hwr:u≠none->s1.wr=true:=by
  intro hu;rw [f3,k4];cases u with
  |none=>exact absurd rfl hu
  |some x=>exact hL.1
 have hunr:s1.wr=true->u≠none:=by
  intro h1 h2;subst h2;rw [f3,k4,show s.wr=false from hL] at h1;cases h1
 have hm0:m≠0:=by have:=hg.1.lv;omega
 have hbeg:beg L m=L:=Gb hm0;refine ⟨G,by rw [hlf,hG],?_,?_,?_,?_⟩
 ·refine ⟨?_,fun h=>by rw [<-hG] at h ⊢;exact r1 h,fun h=>absurd h hc,fun h=>absurd h hc,?_,fun _ _ _ h=>absurd h hc,?_⟩
  ·rw [<-hG];exact fun d hd=>⟨wZ hSr d hd,hSr.n d hd⟩
  ·intro x hx h7;subst hx;rw [<-hG];exact DL (by rw [f1,k3];exact hL.2.1 h7) _ _
  ·intro x hx hnx hnt;subst hx;obtain ⟨l1,l2⟩:=hL.2.2 hnx
   by_cases hgp:s.ws.any bQ=true
   ·exact .inl (hgpre _ (ib hpre (by rw [k1];exact hgp)))
   ·by_cases hw:wA x/\wA t
    ·have hbar:=(l1.resolve_left hgp) hw.1
     rcases dW cW wA M6 hw.2 hbar with h|h
     ·exact .inl (hgpre _ h)
     ·exact .inl (hgsep h)
    ·by_cases hd:yB x/\Gg t
     ·have hbar:=(l2.resolve_left hgp) hd.1
      rcases dW cD Gg M7 hd.2 hbar with h|h
      ·exact .inl (hgpre _ h)
      ·exact .inl (hgsep h)
     ·exact .inr ⟨hw,hd⟩
 ·have hws:(s1.leaf t).1.ws=(Sy.aws ⟨(s1.ready (aG n0 t).a t.f).ns,[],none,true,false,false⟩ (aG n0 t).b.pz).ws:=by rw [hlf];rfl
  refine ⟨hg,by rw [hkn];exact hks,?_,?_,⟨_,hSn⟩,(lw KV hR rfl oW).1,(lw KY hR rfl oD).1,(lw KX hR rfl oN).1,?_⟩
  ·rw [hlf];exact (fI ⟨(s1.ready (aG n0 t).a t.f).ns,[],none,true,false,false⟩ (aG n0 t).b.pz).2.2.1
  ·rw [hws];exact NE.aws (s:=⟨(s1.ready (aG n0 t).a t.f).ns,[],none,true,false,false⟩) (fun d hd=>(nomatch (show d∈([]:List Dc) from hd))) _
  ·rw [hbeg]
   by_cases hh:((aG n0 t).b.pz).any xE=true
   ·exact .inl (by rw [hws];exact Kg _ hh)
   ·obtain ⟨_,x,hx,hxe⟩:=lw KX hR rfl oN;refine .inr (hxe (ow hx ?_ (fun _=>rfl)));have:=Jq (n:=n0) (t:=t) (by simpa using hh);rw [hnk] at this;show (!Jr (aQ L) t.k t.t)=true;rw [this];rfl
 ·have hws:(s1.leaf t).1.ws=(Sy.aws ⟨(s1.ready (aG n0 t).a t.f).ns,[],none,true,false,false⟩ (aG n0 t).b.pz).ws:=by rw [hlf];rfl
  have hwr2:(s1.leaf t).1.wr=true:=by
   have haw:∀(l:List Pz) (s:Sy),(s.aws l).wr=s.wr:=by
    intro l
    induction l with
    |nil=>intro s;rfl
    |cons p l ih=>intro s;rw [bZ];exact ih (s.aw p)
   rw [hlf];exact haw _ _
  have sb:(s1.leaf t).1.ws.any bQ=false->xd (aQ L) t.k t.t=false:=by
   intro h;rw [<-hnk];refine Hz ?_;cases hq:((aG n0 t).b.pz).any qi with
   |false=>rfl
   |true=>rw [hws,Ai _ hq] at h;cases h
  refine ⟨hwr2,fun h=>absurd (.inl h) hc,fun _=>⟨?_,?_⟩⟩
  ·cases hq:(s1.leaf t).1.ws.any bQ with
   |true=>exact .inl rfl
   |false=>
    refine .inr (fun hb=>?_);rw [hbeg];obtain ⟨_,x,hx,hxe⟩:=lw KV hR rfl oW;refine hxe (ow hx ?_ (fun _=>rfl));show (!decide (t.k=6) && !xd (aQ L) t.k t.t)=true;rw [sb hq,QX (by rcases hb with h|h|h <;> omega)];rfl
  ·cases hq:(s1.leaf t).1.ws.any bQ with
   |true=>exact .inl rfl
   |false=>
    refine .inr (fun hb=>?_);rw [hbeg];obtain ⟨_,x,hx,hxe⟩:=lw KY hR rfl oD;refine hxe (ow hx ?_ (fun h=>?_))
    ·show (decide (t.k=6) && (Df.contains t.t.data.toList && !xd (aQ L) t.k t.t))=true
     rw [sb hq,QW hb.1,hb.2];rfl
    ·have:=hb.1;omega
 ·intro t' e1 e2 hf;have hro:aG n0 t'=aG n0 t:=by unfold aG;rw [e1,e2]
  rw [hlf t',hlf t,hro,e2,r2 t'.f (fun h=>by rw [hG];exact hf (hunr h))]
theorem Kc (n:Int):gh n≠0:=by
 unfold gh
 split
 ·decide
 ·rename_i h;simpa using h
theorem Fw {l:List Dc}(h:l.any bD=true):(l.dropWhile be).any bD=true:=by
 induction l with
 |nil=>cases h
 |cons d l ih=>
  rw [UC]
  split
  ·rename_i hb
   have hd:bD d=false:=by
    unfold be at hb;unfold bD;have:=Rm hb;exact QX (by omega)
   rw [Ur,hd,U6] at h;exact ih h
  ·exact h
theorem Br (hP:PI K n s) (hL:LI u K n s) (hc:gE t) (hg:fX (.live (beg K n) (gh n))) (hrt:eZ t.t=true) (hf0:0<=t.f) (h7:∀x,u=some x->x.k=7->1<=t.f) :
  ∃G,((aK s (bK n)).note t).2=G++[dT t.t]/\CP u G t/\PI (beg K n) (gh n) ((aK s (bK n)).note t).1/\LI (some t) (beg K n) (gh n) ((aK s (bK n)).note t).1/\∀t':Tv,t'.k=t.k->t'.t=t.t->0<=t'.f->(u≠none->(2<=t'.f↔dE∈G)/\(t'.f=0↔G.any bD=false))->(aK s (bK n)).note t'=(aK s (bK n)).note t:=by
 obtain ⟨k0,k1,k2,k3,k4,k5,L0,hS0⟩:=wy hP;obtain ⟨oW,oD,oN⟩:=F9 hP;obtain ⟨s0,hs0⟩:∃s0,aK s (bK n)=s0:=⟨_,rfl⟩;rw [hs0] at k0 k1 k2 k3 k4 k5 hS0 ⊢;obtain ⟨hSn,_,hkn⟩:=hS0.note t hrt;obtain ⟨bg,hbg⟩:∃bg,s0.ws.takeWhile be=bg:=⟨_,rfl⟩;have hbB:∀d∈bg,be d=true:=by rw [<-hbg];exact fun d hd=>Ti.1 List.all_takeWhile d hd
 have hbsub:∀d∈bg,d∈s0.ws:=by rw [<-hbg];exact fun d hd=>(List.takeWhile_prefix be).subset hd
 have hbf:∀d∈bg,rt d=true/\d.k≠1:=fun d hd=>⟨wZ hS0 d (hbsub d hd),hS0.n d (hbsub d hd)⟩
 have hb6:∀d∈bg,d.k=6:=fun d hd=>Rm (hbB d hd)
 have hbH:bg.any bD=false:=by
  rw [T6];intro d hd;have:=hb6 d hd;unfold bD;simp;omega
 have hbK:bg.any BF=false:=by
  rw [T6];intro d hd;have:=hb6 d hd;unfold BF;simp;omega
 have hbE:dE∉bg:=fun h=>by have:=hb6 _ h;exact absurd this (by decide)
 have hwr:u≠none↔s0.wr=true:=by
  rw [k4];cases u with
  |none=>rw [show s.wr=false from hL];simp
  |some x=>rw [hL.1];simp
 have hnote:∀t:Tv,s0.note t=if t.f=0/\s0.wr=true then (⟨s0.ns,s0.ws.dropWhile be,none,true,s0.en || decide (t.k=7),s0.pt || decide (t.k=8)⟩,bg++[dS,dT t.t]) else (⟨s0.ns,s0.ws.dropWhile be,none,true,true,s0.pt⟩,bg++dH :: ((if 2<=t.f/\s0.wr=true/\bg=[] then [dE] else [])++[dT t.t])):=by
  intro t;unfold Sy.note;rw [hbg]
 obtain ⟨G,hG,hGp⟩:∃G,(s0.note t).2=G++[dT t.t]/\G=(if t.f=0/\s0.wr=true then bg++[dS] else bg++dH :: (if 2<=t.f/\s0.wr=true/\bg=[] then [dE] else [])):=by
  refine ⟨_,?_,rfl⟩;rw [hnote]
  by_cases h:t.f=0/\s0.wr=true
  ·rw [IO h,IO h];simp
  ·rw [Eq h,Eq h];simp
 have hHd:G.any bD=!decide (t.f=0/\s0.wr=true):=by
  rw [hGp]
  by_cases h:t.f=0/\s0.wr=true
  ·rw [IO h,QW h,Rk,hbH];rfl
  ·rw [Eq h,QX h,Rk,Ur];simp [bD,dH]
 have hDE:dE∈G↔(¬(t.f=0/\s0.wr=true)/\2<=t.f/\s0.wr=true/\bg=[]):=by
  rw [hGp]
  by_cases h:t.f=0/\s0.wr=true
  ·rw [IO h];constructor
   ·intro hm
    rcases Q6.1 hm with hm|hm
    ·exact absurd hm hbE
    ·simp at hm;cases hm
   ·intro hm;exact absurd h hm.1
  ·rw [Eq h]
   by_cases h2:2<=t.f/\s0.wr=true/\bg=[]
   ·rw [IO h2];exact ⟨fun _=>⟨h,h2⟩,fun _=>by simp⟩
   ·rw [Eq h2];constructor
    ·intro hm
     rcases Q6.1 hm with hm|hm
     ·exact absurd hm hbE
     ·simp at hm;cases hm
    ·intro hm;exact absurd hm.2 h2
 refine ⟨G,hG,⟨?_,?_,?_,?_,?_,?_,fun _ _ _ h=>absurd hc h⟩,?_,?_,?_⟩
 ·intro d hd;rw [hGp] at hd
  split at hd
  ·rcases Q6.1 hd with hd|hd
   ·exact hbf d hd
   ·simp at hd;subst hd;exact ⟨rfl,by decide⟩
  ·rcases Q6.1 hd with hd|hd
   ·exact hbf d hd
   ·rcases Rg.1 hd with rfl|hd
    ·exact ⟨rfl,by decide⟩
    ·split at hd
     ·simp at hd;subst hd;exact ⟨rfl,by decide⟩
     ·cases hd
 ·intro h;obtain ⟨h1,h2⟩:=hDE.1 h;rw [hGp,Eq h1,IO h2,h2.2.2];exact ⟨[dH],[],rfl,rfl⟩
 ·intro _;rw [hGp]
  split
  ·rw [Rk,hbK];rfl
  ·rw [Rk,hbK]
   split <;> rfl
 ·intro _ hu;have hw:=hwr.1 hu;rw [hHd];simp [hw]
 ·intro x hx hx7;have:=h7 x hx hx7;rw [hHd,QX (by rintro ⟨h1,_⟩;omega)];rfl
 ·intro x hx _ _;rw [hGp]
  split
  ·rw [Rk];simp [bQ,dS]
  ·rw [Rk,Ur];simp [bQ,dH]
 ·have hws:(s0.note t).1.ws=s0.ws.dropWhile be:=by rw [hnote];split <;> rfl
  refine ⟨hg,by rw [hkn];exact k0,by rw [hnote];split <;> rfl,?_,⟨_,hSn⟩,oW,oD,oN,?_⟩
  ·rw [hws];intro d hd;exact hP.ne d (by rw [<-k1];exact (List.dropWhile_suffix be).subset hd)
  ·rw [hws,Gb (Kc n),k1];exact hP.nH.imp Fw id
 ·refine ⟨by rw [hnote];split <;> rfl,fun h=>?_,fun h=>absurd hc h⟩;rw [hnote]
  split
  ·show (s0.en || decide (t.k=7))=true;rw [QW h,Bool.or_true]
  ·rfl
 ·intro t' e1 e2 hf' hx;rw [hnote t',hnote t,e1,e2]
  by_cases hw:s0.wr=true
  ·obtain ⟨x1,x2⟩:=hx (hwr.2 hw);rw [hHd] at x2;rw [hDE] at x1
   by_cases h:t.f=0
   ·rw [IO ⟨x2.2 (by simp [h,hw]),hw⟩,IO ⟨h,hw⟩]
   ·have hn:¬t'.f=0:=fun e=>by have:=x2.1 e;simp [h] at this
    rw [Eq (show ¬(t'.f=0/\s0.wr=true) from fun hh=>hn hh.1),Eq (show ¬(t.f=0/\s0.wr=true) from fun hh=>h hh.1)]
    have:(2<=t'.f/\s0.wr=true/\bg=[])↔(2<=t.f/\s0.wr=true/\bg=[]):=by
     constructor
     ·rintro ⟨a1,a2,a3⟩;exact (x1.1 a1).2
     ·rintro ⟨a1,a2,a3⟩;exact ⟨x1.2 ⟨fun hh=>h hh.1,a1,a2,a3⟩,a2,a3⟩
    by_cases h2:2<=t.f/\s0.wr=true/\bg=[]
    ·rw [IO (this.2 h2),IO h2]
    ·rw [Eq (fun hh=>h2 (this.1 hh)),Eq h2]
  ·rw [Eq (show ¬(t'.f=0/\s0.wr=true) from fun hh=>hw hh.2),Eq (show ¬(t.f=0/\s0.wr=true) from fun hh=>hw hh.2),Eq (show ¬(2<=t'.f/\s0.wr=true/\bg=[]) from fun hh=>hw hh.2.1),Eq (show ¬(2<=t.f/\s0.wr=true/\bg=[]) from fun hh=>hw hh.2.1)]
theorem rI (h1:t'.k=t.k) (h2:t'.t=t.t) (i:It):It.step t' i=It.step t i:=by
 obtain ⟨k,x,a,l,c,f⟩:=t;obtain ⟨k',x',a',l',c',f'⟩:=t';simp only at h1 h2;subst h1 h2;cases i with
 |fl y=>
  cases y with
  |mt m=>cases m <;> rfl
  |_=>rfl
 |lv n=>rfl
 |once p=>
  cases p with
  |fn d=>cases d <;> rfl
  |row r=>cases r with
   |nil=>rfl
   |cons y r=>cases y <;> rfl
  |ex m=>rfl
 |again p=>
  cases p with
  |fn d=>cases d <;> rfl
  |row r=>cases r with
   |nil=>rfl
   |cons y r=>cases y <;> rfl
  |ex m=>rfl
 |all r=>rfl
theorem N8 (h1:t'.k=t.k) (h2:t'.t=t.t) {k:Nat}{K:List It}{n:Int}{E:List Ev}{R:Ro}(h:Ru t k K n E R):Ru t' k K n E R:=by
 induction h with
 |nil=>exact .nil
 |ref hs=>exact .ref (by rw [rI h1 h2];exact hs)
 |tk hs=>exact .tk (by rw [rI h1 h2];exact hs)
 |go hs _ ih=>exact .go (by rw [rI h1 h2];exact hs) ih
def Qo (t:Tv):Tv:=⟨t.k,t.t,0,0,0,0⟩
def er (e:Ev):Ev:=⟨e.k,e.n,Qo e.d⟩
def eE:List (List Dc)->List Tv->List Dc
 |G :: gs,t :: l=>G++(dT t.t :: eE gs l)
 |_,_=>[]
inductive Ko:Option Tv->List (List Dc)->List Tv->Prop
 |nil {u:Option Tv}:Ko u [] []
 |cons {u:Option Tv} {G:List Dc} {t:Tv} {gs:List (List Dc)} {l:List Tv}:CP u G t->Ko (some t) gs l->Ko u (G :: gs) (t :: l)
inductive Sm:Bool->List (List Dc)->List Tv->List Tv->Prop
 |nil {b:Bool}:Sm b [] [] []
 |cons {b:Bool} {G:List Dc} {t t':Tv} {gs:List (List Dc)} {l l':List Tv}:t'.k=t.k->t'.t=t.t->0<=t'.f->(b=true->(2<=t'.f↔dE∈G)/\(gE t->(t'.f=0↔G.any bD=false)))->Sm true gs l l'->Sm b (G :: gs) (t :: l) (t' :: l')
structure Nu (ge:List Dc):Prop where
 fine:∀d∈ge,rt d=true/\d.k≠1/\d≠dE
 hd:ge.any bD=true
theorem gG {e:Ev}{r:List Ev}:cK s (e :: r)=match dy s e with|none=>none|some (s',l)=>(cK s' r).map (l++·):=rfl
theorem ut {s1:Sy}{l:List Dc}:∀{a:List Ev},wJ s a=some (s1,l)->∀b,cK s (a++b)=(cK s1 b).map (l++·):=by
 intro a
 induction a generalizing s l with
 |nil=>
  intro h b;cases h;show cK s1 b=_;cases cK s1 b <;> simp
 |cons e a ih=>
  intro h b;simp only [wJ] at h;show cK s (e :: (a++b))=_;rw [gG];cases hp:dy s e with
  |none=>rw [hp] at h;cases h
  |some x=>
   obtain ⟨s2,l2⟩:=x;rw [hp] at h;simp only at h ⊢;obtain ⟨⟨y1,y2⟩,hy,e2⟩:=Q9.1 h;simp only [Prod.mk.injEq] at e2;obtain ⟨rfl,rfl⟩:=e2;rw [ih hy];cases cK y1 b <;> simp
theorem yC {s s1 s2:Sy}{l:List Dc}{o:List Ev}{e:Ev}(h:wJ s o=some (s1,[])) (hp:dy s1 e=some (s2,l)):wJ s (o++[e])=some (s2,l):=by
 rw [Hs s o [e] h];simp [wJ,hp]
theorem rR:∀(l:List Tv) (K:List It) (n:Int) (s:Sy) (u:Option Tv) (E:List Ev) (a:Nat),gA (.live K n) l E 0 a->PI K n s->LI u K n s->OZ l->(∀x t,u=some x->x.k=7->l[0]?=some t->1<=t.f) ->
  ∃gs ge,gs.length=l.length/\cK s E=some (eE gs l++ge)/\Ko u gs l/\Nu ge/\∀l',Sm u.isSome gs l l'->∃E',gA (.live K n) l' E' 0 a/\cK s E'=some (eE gs l++ge)/\E'.map er=E.map er
 |[],K,n,s,u,E,a,hA,hP,hL,hT,h7=>by
  obtain ⟨hc,ha⟩:=hA.end;cases hc with
  |all hK=>
   have hb:NB K:=by
    rcases hP.gd.2 with ⟨_,h2⟩|h2
    ·rw [h2] at hK;cases hK
    ·exact h2
   obtain ⟨X,hX⟩:=hb
   have hX0:X=[]:=by
    rw [hX,Or] at hK;exact QZ (by have:X.length+1=1:=hK;omega)
   have hk1:s.ks=[1]:=by rw [hP.ks,hX,hX0];rfl
   obtain ⟨nd,hns,hnk⟩:∃nd,s.ns=[nd]/\nd.k=1:=by
    unfold Sy.ks at hk1;cases hc:s.ns with
    |nil=>rw [hc] at hk1;cases hk1
    |cons nd ns=>
     rw [hc,Sg] at hk1;injection hk1 with e1 e2
     rw [List.map_eq_nil_iff] at e2;exact ⟨nd,by rw [e2],e1⟩
   have hm:s.may ⟨3,1,aB⟩=true:=by
    unfold Sy.may;rw [Eq (by decide),IO rfl,hns];exact QW hnk
   obtain ⟨L0,hS⟩:=hP.sn;have hS1:=hS.leaves.1;have hlv:s.leaves={ s with ns:=[],ws:=s.ws++List.replicate nd.b dX++[dH] }:=by unfold Sy.leaves;rw [hns];simp [hnk]
   have hhd:s.leaves.ws.any bD=true:=by rw [hlv];show (s.ws++List.replicate nd.b dX++[dH]).any bD=true;rw [Rk];simp [bD,dH]
   have hen:s.leaves.endl=s.leaves:=by unfold Sy.endl;rw [Eq (fun h=>by rw [hhd] at h;cases h.2)]
   have hcl:ic s.leaves=some s.leaves.ws:=by unfold ic;rw [IO (by rw [hlv]),hen]
   have hsl:cK s [⟨3,1,aB⟩]=some s.leaves.ws:=by
    rw [gG];have:dy s ⟨3,1,aB⟩=some (s.leaves,[]):=by unfold dy;rw [IO hm,cz s rfl]
    rw [this];show (cK s.leaves []).map ([]++·)=_;show (ic s.leaves).map ([]++·)=_;rw [hcl];rfl
   have hne:NE s.leaves:=NE.leaves hP.ne;refine ⟨[],s.leaves.ws,rfl,hsl,.nil,⟨fun d hd=>⟨wZ hS1 d hd,hS1.n d hd,hne d hd⟩,hhd⟩,fun l' hl=>?_⟩;cases hl;exact ⟨_,hA,hsl,rfl⟩
 |t :: l,K,n,s,u,E,a,hA,hP,hL,hT,h7=>by
  rcases hA.inv with ⟨_,_,_,hc,_⟩|⟨ev,st',E2,k2,hp,hA2,rfl,rfl⟩
  ·exact absurd rfl hc
  ·have hgk:=(dF hP.gd hp).1;obtain ⟨kk,htx,_⟩:=hT.tx t (QN ..);have hrt:=NW htx;obtain ⟨c1,c2⟩:=jz n;obtain ⟨b1,b2,b3,b4,b5,hbot,hbn,hbe⟩:=cG hP.gd;cases hp with
   |note hc=>
    have hnt:gE t:=by simpa [gE] using hc
    obtain ⟨G,g1,g2,g3,g4,g5⟩:=Br hP hL hnt hgk hrt (hT.fd t (QN ..)) (fun x hx hx7=>h7 x t hx hx7 rfl);have hspx:wJ s (bK n)=some (aK s (bK n),[]):=(kf c1 c2 s (by rw [hP.ks];exact b4)).1;have hks0:=(kf c1 c2 s (l:=bJ (beg K n)) (by rw [hP.ks];exact b4)).2
    have hput:∀t':Tv,t'.k=t.k->t'.t=t.t->dy (aK s (bK n)) ⟨4,0,t'⟩=some ((aK s (bK n)).note t'):=by
     intro t' e1 e2
     have hm:(aK s (bK n)).may ⟨4,0,t'⟩=true:=by
      unfold Sy.may;rw [Eq (show ¬(4:Int)=1 by decide),Eq (show ¬(4:Int)=3 by decide),Eq (show ¬(4:Int)=2 by decide),IO rfl];show ((!(aK s (bK n)).ns.isEmpty) && (eZ t'.t && decide (t'.k=7\/t'.k=8)))=true;rw [e1,e2,hrt,QW (show t.k=7\/t.k=8 from hnt)]
      have:(aK s (bK n)).ns≠[]:=by
       intro h0;have hl:=iT hbot;rw [<-hks0] at hl;unfold Sy.ks at hl;rw [h0] at hl;exact absurd hl (by decide)
      cases hcc:(aK s (bK n)).ns with
      |nil=>exact absurd hcc this
      |cons _ _=>rfl
     unfold dy;rw [IO hm];rfl
    obtain ⟨gs,ge,r1,r2,r3,r4,r5⟩:=rR l (beg K n) (gh n) _ (some t) E2 k2 hA2 g3 g4 hT.tail (fun x y hx hx7 hy=>by cases hx;exact hT.ln 0 t y rfl hy hx7)
    have one:∀t':Tv,t'.k=t.k->t'.t=t.t->(aK s (bK n)).note t'=(aK s (bK n)).note t->∀E3,cK s (bK n++[⟨4,0,t'⟩]++E3)=(cK ((aK s (bK n)).note t).1 E3).map ((G++[dT t.t])++·):=by
     intro t' e1 e2 e3 E3;have h1:=hput t' e1 e2;rw [e3] at h1;have h2:=ut (yC (s2:=((aK s (bK n)).note t).1) (l:=((aK s (bK n)).note t).2) hspx h1) E3;rw [g1] at h2;exact h2
    refine ⟨G :: gs,ge,by simp [r1],?_,.cons g2 r3,r4,?_⟩
    ·rw [one t rfl rfl rfl,r2];simp [eE]
    ·intro l' hl;cases hl with
     |cons x1 x2 x3 x4 x5=>
      rename_i t' l''
      obtain ⟨E3,y1,y2,y3⟩:=r5 l'' x5;have hu:u≠none->u.isSome=true:=fun hu=>by cases u with|none=>exact absurd rfl hu|some _=>rfl
      have hsame:=g5 t' x1 x2 x3 (fun h=>⟨(x4 (hu h)).1,(x4 (hu h)).2 hnt⟩);refine ⟨bK n++[⟨4,0,t'⟩]++E3,.on (.note (by rw [x1];exact hc)) y1,?_,by simp [er,Qo,x1,x2,y3]⟩;rw [one t' x1 x2 hsame,y2];simp [eE]
   |yes hc hR hkk hm=>
    rename_i L m E1 kk1
    have hnt:¬gE t:=by
     intro h;have h':(t.k == 7 || t.k == 8)=true:=by simpa [gE] using h
     rw [hc] at h';cases h'
    obtain ⟨G,g1,g2,g3,g4,g5⟩:=BB hP hL hnt hR hgk hrt;obtain ⟨d1,d2,d3,o,d4,d5,d6,d7⟩:=eu hR rfl b1 b2 b3
    have hB:nY E1:=by
     rw [d4];intro e he
     rcases Q6.1 he with he|he
     ·exact c1 e he
     ·exact (d6 e he).2.1
    have hnod:=oG hR rfl c2;have hpl:cB s.ks E1=some (bJ L):=by rw [d4,hP.ks];exact (dG _ _ _ _ b4).trans d5
    obtain ⟨hspx,hks0⟩:=kf hB hnod s hpl
    have hput:∀t':Tv,t'.k=t.k->t'.t=t.t->dy (aK s E1) ⟨2,0,t'⟩=some ((aK s E1).leaf t'):=by
     intro t' e1 e2
     have hm:(aK s E1).may ⟨2,0,t'⟩=true:=by
      unfold Sy.may;rw [Eq (show ¬(2:Int)=1 by decide),Eq (show ¬(2:Int)=3 by decide),IO rfl];show ((!(aK s E1).ns.isEmpty) && eZ t'.t)=true;rw [e2,hrt]
      have:(aK s E1).ns≠[]:=by
       intro h0;have hl:=iT (oI hR rfl hbot);rw [<-hks0] at hl;unfold Sy.ks at hl;rw [h0] at hl;exact absurd hl (by decide)
      cases hcc:(aK s E1).ns with
      |nil=>exact absurd hcc this
      |cons _ _=>rfl
     unfold dy;rw [IO hm];rfl
    obtain ⟨gs,ge,r1,r2,r3,r4,r5⟩:=rR l L m _ (some t) E2 k2 hA2 g3 g4 hT.tail (fun x y hx hx7 hy=>by cases hx;exact hT.ln 0 t y rfl hy hx7)
    have one:∀t':Tv,t'.k=t.k->t'.t=t.t->(aK s E1).leaf t'=(aK s E1).leaf t->∀E3,cK s (E1++[⟨2,0,t'⟩]++E3)=(cK ((aK s E1).leaf t).1 E3).map ((G++[dT t.t])++·):=by
     intro t' e1 e2 e3 E3;have h1:=hput t' e1 e2;rw [e3] at h1;have h2:=ut (yC (s2:=((aK s E1).leaf t).1) (l:=((aK s E1).leaf t).2) hspx h1) E3;rw [g1] at h2;exact h2
    refine ⟨G :: gs,ge,by simp [r1],?_,.cons g2 r3,r4,?_⟩
    ·rw [one t rfl rfl rfl,r2];simp [eE]
    ·intro l' hl;cases hl with
     |cons x1 x2 x3 x4 x5=>
      rename_i t' l''
      obtain ⟨E3,y1,y2,y3⟩:=r5 l'' x5;have hu:u≠none->u.isSome=true:=fun hu=>by cases u with|none=>exact absurd rfl hu|some _=>rfl
      have hsame:=g5 t' x1 x2 (fun h=>(x4 (hu h)).1);refine ⟨E1++[⟨2,0,t'⟩]++E3,.on (.yes (by rw [x1];exact hc) (N8 x1 x2 hR) hkk hm) y1,?_,by simp [er,Qo,x1,x2,y3]⟩;rw [one t' x1 x2 hsame,y2];simp [eE]
theorem Mf:PI [] 0 qd:=⟨fj,rfl,rfl,(fun d hd=>by cases hd),⟨[],kh⟩,rfl,rfl,rfl,.inr rfl⟩
end Go.Proofs.YtjiepkenkcgkhaaGreatDoor
