import Derived.Test.YtpdlohfdjiaegaaGreatDoorM17
import Derived.Test.YtpdlohfdjiaegaaGreatDoorM35
set_option linter.unusedVariables false
set_option linter.unusedSimpArgs false
namespace Go.Proofs.YtpdlohfdjiaegaaGreatDoor
open Go.RowKit
open Lw (Dc bE rt frm dep rtT rtN lsb St6 puts eV nds pr0 st0)
def HbE (G:List Dc):Prop:=∃A B,G=A++dE :: B/\A.any aX=true
def sV (d:Dc):Bool:=decide (d.k=3)
structure GI (O:List UInt8) (G:List Dc) (a:Nat) (p:Lw.Pr):Prop where
 out:p.sk.out=O++List.replicate a 10
 st:(a=0/\p.sk.fresh=false/\p.en=false)\/(a=1/\p.sk.fresh=true/\p.en=true/\p.sk.wait=0)\/(a=2/\p.sk.fresh=true/\p.en=false/\p.sk.wait=0)
 hd:G.any aX=true->1<=a
 e2:a=2->dE∈G
 he:HbE G->a=2
 no:1<=a->G.any aX=true\/G.any sV=true
 gp:G.any bm=true->1<=a\/1<=p.sk.wait
theorem jO {O:List UInt8}{p:Lw.Pr}(h1:p.sk.out=O) (h2:p.sk.fresh=false) (h3:p.en=false):GI O [] 0 p:=
 ⟨by rw [h1];simp,.inl ⟨rfl,h2,h3⟩,(fun h=>by cases h),(fun h=>by cases h),(fun ⟨A,B,e,_⟩=>by simp at e),(fun h=>by omega),(fun h=>by cases h)⟩
theorem qS {G:List Dc}{d:Dc}(h:HbE (G++[d])):HbE G\/(d=dE/\G.any aX=true):=by
 obtain ⟨A,B,e,hA⟩:=h
 rcases List.eq_nil_or_concat B with rfl|⟨B',x,rfl⟩
 ·have:=List.append_inj' e rfl;rw [this.1];injection this.2 with h1
  exact .inr ⟨h1,hA⟩
 ·refine .inl ⟨A,B',?_,hA⟩;have e':G++[d]=(A++dE :: B')++[x]:=by rw [e];simp
  exact (List.append_inj' e' rfl).1
theorem GI.same {O:List UInt8}{G:List Dc}{a:Nat}{p q:Lw.Pr}(h:GI O G a p) (d:Dc) (h1:q.sk.out=p.sk.out) (h2:q.sk.fresh=p.sk.fresh) (h3:q.en=p.en) (h4:q.sk.wait=p.sk.wait\/(p.sk.fresh=false/\p.sk.wait<=q.sk.wait)) (h5:aX d=true->1<=a) (h6:d=dE->a≠1) (h7:bm d=true->1<=a\/1<=q.sk.wait):GI O (G++[d]) a q:=by
 refine ⟨by rw [h1];exact h.out,?_,?_,fun e=>List.mem_append_left _ (h.e2 e),?_,?_,?_⟩
 ·rcases h.st with ⟨x1,x2,x3⟩|⟨x1,x2,x3,x4⟩|⟨x1,x2,x3,x4⟩
  ·exact .inl ⟨x1,by rw [h2,x2],by rw [h3,x3]⟩
  ·rcases h4 with h4|⟨h4,_⟩
   ·exact .inr (.inl ⟨x1,by rw [h2,x2],by rw [h3,x3],by rw [h4,x4]⟩)
   ·rw [x2] at h4;cases h4
  ·rcases h4 with h4|⟨h4,_⟩
   ·exact .inr (.inr ⟨x1,by rw [h2,x2],by rw [h3,x3],by rw [h4,x4]⟩)
   ·rw [x2] at h4;cases h4
 ·intro e;rw [List.any_append,Bool.or_eq_true] at e
  rcases e with e|e
  ·exact h.hd e
  ·exact h5 (by simpa using e)
 ·intro e
  rcases qS e with e|⟨e1,e2⟩
  ·exact h.he e
  ·have:=h.hd e2;have:=h6 e1
   rcases h.st with ⟨x1,_⟩|⟨x1,_⟩|⟨x1,_⟩ <;> omega
 ·intro e
  rcases h.no e with x|x
  ·exact .inl (by rw [List.any_append,x,Bool.true_or])
  ·exact .inr (by rw [List.any_append,x,Bool.true_or])
 ·intro e;rw [List.any_append,Bool.or_eq_true] at e
  rcases e with e|e
  ·rcases h.gp e with x|x
   ·exact .inl x
   ·exact .inr (by rcases h4 with h4|⟨_,h4⟩ <;> omega)
  ·exact h7 (by simpa using e)
theorem GI.put {O:List UInt8}{G:List Dc}{a:Nat}{p:Lw.Pr}(h:GI O G a p) {n m:Nat}{d:Dc}(hd:rt d=true) (h1:d.k≠1):∃a',GI O (G++[d]) a' (Lw.put n d m p):=by
 have hold:∀k,aX d=false->d≠dE->(bm d=true->1<=k)->GI O (G++[d]) a (p.hold k):=by
  intro k n1 n2 n3;unfold Lw.Pr.hold
  split
  ·rename_i hf
   refine h.same d rfl rfl rfl (.inl rfl) (fun e=>by rw [n1] at e;cases e) (fun e=>absurd e n2) (fun _=>?_)
   rcases h.st with ⟨x1,x2,_⟩|⟨x1,_⟩|⟨x1,_⟩
   ·rw [x2] at hf;cases hf
   ·exact .inl (by omega)
   ·exact .inl (by omega)
  ·rename_i hf
   have hf':p.sk.fresh=false:=by simpa using hf
   refine h.same d rfl rfl rfl (.inr ⟨hf',Nat.le_add_right _ _⟩) (fun e=>by rw [n1] at e;cases e) (fun e=>absurd e n2) (fun e=>.inr ?_);show 1<=p.sk.wait+k;have:=n3 e;omega
 have endl:d≠dE->(aX d=true\/sV d=true)->∃a',GI O (G++[d]) a' p.endl:=by
  intro n2 n3;unfold Lw.Pr.endl
  split
  ·rename_i hf
   have ha:1<=a:=by
    rcases h.st with ⟨x1,x2,_⟩|⟨x1,_⟩|⟨x1,_⟩
    ·rw [x2] at hf;cases hf
    ·omega
    ·omega
   exact ⟨a,h.same d rfl rfl rfl (.inl rfl) (fun _=>ha) (fun e=>absurd e n2) (fun _=>.inl ha)⟩
  ·rename_i hf
   have hf':p.sk.fresh=false:=by simpa using hf
   have ha:a=0:=by
    rcases h.st with ⟨x1,_⟩|⟨_,x2,_⟩|⟨_,x2,_⟩
    ·exact x1
    ·rw [x2] at hf';cases hf'
    ·rw [x2] at hf';cases hf'
   subst ha;refine ⟨1,?_,.inr (.inl ⟨rfl,rfl,rfl,rfl⟩),fun _=>Nat.le_refl _,(fun e=>by cases e),?_,?_,fun _=>.inl (Nat.le_refl _)⟩
   ·show p.sk.out++[10]=_
    rw [h.out];simp
   ·intro e
    rcases qS e with e|⟨e1,_⟩
    ·exact absurd (h.he e) (by decide)
    ·exact absurd e1 n2
   ·intro _
    rcases n3 with x|x
    ·exact .inl (by rw [List.any_append];simp [x])
    ·exact .inr (by rw [List.any_append];simp [x])
 cases Lw.iA hd with
 |text t hq=>exact absurd rfl h1
 |brk k hq=>
  show ∃a',GI O _ a' (if p.brk n m then p.endl else p.hold k.toNat)
  split
  ·exact endl (fun e=>by cases e) (.inr rfl)
  ·refine ⟨a,hold _ rfl (fun e=>by cases e) (fun e=>?_)⟩;have hk:(⟨3,bE,k,0,false⟩:Dc)=dB 1:=by simpa [bm] using e
   injection hk with _ _ hk
   rw [hk];decide
 |beg k e hq=>
  refine ⟨a,h.same _ rfl rfl rfl (.inl rfl) (fun e=>by cases e) (fun e=>by cases e) (fun e=>?_)⟩;simp [bm,dB] at e
 |blank=>exact ⟨a,hold 1 rfl (fun e=>by cases e) (fun _=>Nat.le_refl _)⟩
 |hard=>exact endl (fun e=>by cases e) (.inl rfl)
 |empty=>
  show ∃a',GI O _ a' (if p.en then { p with sk:=p.sk.empty,en:=false } else p)
  split
  ·rename_i he
   have hx:a=1/\p.sk.fresh=true/\p.sk.wait=0:=by
    rcases h.st with ⟨_,_,x3⟩|⟨x1,x2,_,x4⟩|⟨_,_,x3,_⟩
    ·rw [x3] at he;cases he
    ·exact ⟨x1,x2,x4⟩
    ·rw [x3] at he;cases he
   obtain ⟨rfl,hf,hw⟩:=hx;have hem:p.sk.empty=p.sk.feed p.sk.col:=by unfold St6.empty;rw [if_pos hf]
   refine ⟨2,?_,.inr (.inr ⟨rfl,?_,rfl,?_⟩),fun _=>by omega,fun _=>List.mem_append_right _ (List.mem_singleton.2 rfl),fun _=>rfl,?_,fun _=>.inl (by omega)⟩
   ·show p.sk.empty.out=_
    rw [hem];show p.sk.out++[10]=_;rw [h.out];simp [List.replicate]
   ·show p.sk.empty.fresh=true;rw [hem];rfl
   ·show p.sk.empty.wait=0;rw [hem];rfl
   ·intro _
    rcases h.no (Nat.le_refl _) with x|x
    ·exact .inl (by rw [List.any_append,x,Bool.true_or])
    ·exact .inr (by rw [List.any_append,x,Bool.true_or])
  ·rename_i he
   refine ⟨a,h.same _ rfl rfl rfl (.inl rfl) (fun e=>by cases e) (fun _ e=>?_) (fun e=>by simp [bm,dB] at e)⟩
   rcases h.st with ⟨x1,_⟩|⟨_,_,x3,_⟩|⟨x1,_⟩
   ·omega
   ·exact he x3
   ·omega
 | «end»=>exact ⟨a,h.same _ rfl rfl rfl (.inl rfl) (fun e=>by cases e) (fun e=>by cases e) (fun e=>by simp [bm,dB] at e)⟩
theorem GI.puts {O:List UInt8}{n:Nat}:∀(P:List Dc) (ms:List Nat) {G:List Dc}{a:Nat}{p:Lw.Pr},GI O G a p->(∀d∈P,rt d=true/\d.k≠1)->P.length=ms.length->∃a',GI O (G++P) a' (Lw.puts n P ms p)
 |[],[],G,a,p,h,_,_=>⟨a,by rw [List.append_nil];exact h⟩
 |d :: P,m :: ms,G,a,p,h,hr,hl=>by
  obtain ⟨a1,h1⟩:=h.put (n:=n) (m:=m) (hr d (List.mem_cons_self ..)).1 (hr d (List.mem_cons_self ..)).2;obtain ⟨a2,h2⟩:=GI.puts P ms h1 (fun x hx=>hr x (List.mem_cons_of_mem _ hx)) (by simpa using hl);exact ⟨a2,by rw [List.append_assoc] at h2;exact h2⟩
structure GP (G:List Dc) (a b:Nat):Prop where
 le:a<=2
 hd:G.any aX=true->1<=a
 e2:a=2->dE∈G
 he:HbE G->a=2
 no:1<=a->G.any aX=true\/G.any sV=true
 gp:G.any bm=true->1<=a\/1<=b
theorem ie {s:St6}{t:ByteArray}(ht:t.size≠0):(s.text t).out=s.out++((if s.fresh then List.replicate s.col 32 else [])++(List.replicate s.wait 32++lsb t)):=by
 unfold St6.text;rw [if_neg ht];rfl
theorem GI.text {O:List UInt8}{G:List Dc}{a:Nat}{p:Lw.Pr}(h:GI O G a p) {n m:Nat}{t:ByteArray}(ht:t.size≠0):∃b,GP G a b/\GI (O++(List.replicate a 10++(List.replicate b 32++lsb t))) [] 0 (Lw.put n (dT t) m p):=by
 have e:(Lw.put n (dT t) m p)={ p with sk:=p.sk.text t,en:=false }:=rfl;have hf:(p.sk.text t).fresh=false:=by unfold St6.text;rw [if_neg ht]
 have hgp:∀b,(1<=p.sk.wait->1<=b)->GP G a b:=fun b hb=>⟨by rcases h.st with ⟨x,_⟩|⟨x,_⟩|⟨x,_⟩ <;> omega,h.hd,h.e2,h.he,h.no,fun x=>(h.gp x).imp id hb⟩
 cases hfr:p.sk.fresh with
 |false=>
  refine ⟨p.sk.wait,hgp _ id,?_⟩;rw [e];refine jO ?_ hf rfl;show (p.sk.text t).out=_;rw [ie ht,hfr,h.out];simp
 |true=>
  refine ⟨p.sk.col+p.sk.wait,hgp _ (fun x=>by omega),?_⟩;rw [e];refine jO ?_ hf rfl;show (p.sk.text t).out=_;rw [ie ht,hfr,h.out,<-List.replicate_append_replicate,if_pos rfl];simp only [List.append_assoc]
end Go.Proofs.YtpdlohfdjiaegaaGreatDoor
namespace Go.Proofs.YtpdlohfdjiaegaaGreatDoor
open Go.RowKit
open Lw (Dc bE rt frm dep rtT rtN)
variable {s:Sy}{n:Int}{K:List It}{c:Cl}{t:Tv}{o:List Ev}{l:List Pz}
def Gw.nb:Gw->Prop
 |.ref=>True
 |.ex r=>∀n,baR cN n false r=true
 |.op nd r=>dj nd=false/\baR cN nd false r=true
theorem AC (t:Tv) (m:M) (h:cN.mB m=true):(M.row t m).nb:=by
 cases m with
 |kind=>
  simp only [M.row]
  repeat' split
  all_goals first|exact ⟨rfl,rfl⟩|trivial
 |factor=>
  simp only [M.row]
  repeat' split
  all_goals first|exact ⟨rfl,rfl⟩|trivial|exact fun n=>rfl
 |typed=>exact fun n=>rfl
 |list=>exact fun n=>rfl
 |variables=>cases h
 |constants=>cases h
 |procedure=>cases h
 |member=>cases h
 |statement=>cases h
 |body=>cases h
 |block=>cases h
 |_=>exact ⟨rfl,rfl⟩
theorem ox {r:List It}{z:Bool}(h:baR c n false r=true):baR c n z r=true:=by
 induction r with
 |nil=>cases h
 |cons i r ih=>
  simp only [baR,Bool.and_eq_true,Bool.or_eq_true] at h ⊢;exact ⟨h.1,h.2.imp id ih⟩
theorem dynN {k:Nat}{E:List Ev}{R:Ro}(h:Ru t k K n E R):∀{L:List It}{m:Int}{F:List Ev},R=.yes L m F->wfs K->dr cN K=true->∃o,F=E++o/\∀e∈o,e.k=1->dj e.n=false:=by
 induction h with
 |nil=>intro L m F h;cases h
 |ref _=>intro L m F h;cases h
 |tk hs=>intro L m F h _ _;cases h;exact ⟨[],by simp,fun e he=>by simp at he⟩
 |go hs _ ih=>
  rename_i k i K n d E o r R _
  intro L m F h hw hbar;have hi:=hw i (List.mem_cons_self ..);have hw2:=dy (dV (K:=K) hs hi).1 (fun j hj=>hw j (List.mem_cons_of_mem _ hj));simp only [dr,Bool.and_eq_true,Bool.or_eq_true,Bool.not_eq_true'] at hbar;obtain ⟨hba,hnul⟩:=hbar
  have go:(∀e∈o,e.k=1->dj e.n=false)->dr cN (r++K)=true->∃o,F=E++o/\∀e∈o,e.k=1->dj e.n=false:=by
   intro h1 h2;obtain ⟨o2,b1,b2⟩:=ih h hw2 h2;exact ⟨o++o2,by rw [b1,List.append_assoc],fun e he=>(List.mem_append.1 he).elim (h1 e) (b2 e)⟩
  have nilO:∀e∈([]:List Ev),e.k=1->dj e.n=false:=fun e he=>by simp at he
  have picks:∀(p:Pk) (j:It) (K':List It),aE K'=aE K->Pk.pick t p=some j->p.ba cN (aE K)=true->dr cN (j :: K')=true:=by
   intro p j K' eK hp hpb;cases p with
   |fn dk=>
    simp only [Pk.pick,Option.map_eq_some_iff] at hp;obtain ⟨mm,hm,rfl⟩:=hp;show (cN.mB mm && (!false || _))=true
    have:cN.mB mm=true:=by
     cases dk with
     |declaration=>cases hpb
     |bracket=>simp only [Dk.pick] at hm;split at hm <;> cases hm;rfl
     |detail=>
      simp only [Dk.pick] at hm
      split at hm
      ·cases hm;rfl
      ·split at hm
       ·cases hm;rfl
       ·split at hm <;> cases hm;rfl
    rw [this];rfl
   |row rr=>
    simp only [Pk.pick] at hp
    split at hp
    ·cases hp;show (baH cN (aE K') rr && (!false || _))=true;rw [eK,show baH cN (aE K) rr=true from hpb];rfl
    ·cases hp
   |ex mm=>
    simp only [Pk.pick] at hp
    split at hp
    ·cases hp
    ·cases hp;have:cN.mB mm=true:=by cases mm <;> first|rfl|cases hpb
     show (cN.mB mm && (!false || _))=true
     rw [this];rfl
  cases i with
  |fl x=>
   have hm:∃m,x=.mt m:=by
    cases x with
    |mt m=>exact ⟨m,rfl⟩
    |_=>simp only [It.step,Fl.step] at hs;split at hs <;> cases hs
   obtain ⟨m,rfl⟩:=hm;have hnb:=AC t m hba;have hr:=ib t m;simp only [It.step,Fl.step] at hs;cases hrow:M.row t m with
   |ref=>rw [hrow] at hs;cases hs
   |ex r'=>
    rw [hrow] at hs hnb hr;cases hs;exact go nilO (by rw [gQ cN hr.2.2];exact ox (hnb _))
   |op nd r'=>
    rw [hrow] at hs hnb hr;cases hs;refine go (fun e he _=>by simp at he;subst he;exact hnb.1) ?_;rw [List.append_assoc,gQ cN hr.2.2.1];exact ox hnb.2
  |lv a=>
   cases hs;refine go (fun e he h1=>by simp at he;subst he;cases h1) ?_
   rcases hnul with h1|h1
   ·cases h1
   ·exact h1
  |once p=>
   simp only [It.step] at hs;cases hp:Pk.pick t p with
   |none=>
    rw [hp] at hs;cases hs;refine go nilO ?_
    rcases hnul with h1|h1
    ·cases h1
    ·exact h1
   |some j=>rw [hp] at hs;cases hs;exact go nilO (picks p j K rfl hp hba)
  |again p=>
   simp only [It.step] at hs;cases hp:Pk.pick t p with
   |none=>
    rw [hp] at hs;cases hs;refine go nilO ?_
    rcases hnul with h1|h1
    ·cases h1
    ·exact h1
   |some j=>rw [hp] at hs;cases hs;exact go nilO (picks p j (.again p :: K) rfl hp hba)
  |all rr=>
   cases hs;refine go nilO ?_;rw [gQ cN (il rr)];have hb:baH cN (aE K) rr=true:=hba;cases rr with
   |nil=>cases hb
   |cons x rr=>show (x.ba cN (aE K) && (!false || _))=true;rw [show x.ba cN (aE K)=true from hb];rfl
def MkH (s:Sy):Prop:=∀m,s.mr=some m->m<=s.ws.length/\(s.ws.take m).any aX=true
theorem iW {s u:Sy}(h:MkH s) (hm:u.mr=s.mr) (hp:s.ws <+: u.ws):MkH u:=by
 intro m e;rw [hm] at e;obtain ⟨h1,h2⟩:=h m e;obtain ⟨r,hr⟩:=hp;refine ⟨by rw [<-hr,List.length_append];omega,?_⟩;rw [<-hr,List.take_append_of_le_length h1];exact h2
theorem sI (h:MkH s) (k:Int) (hk:s.ws.any aX=true\/dj k=false):MkH (s.opens k):=by
 obtain ⟨s1,hs1⟩:∃s1,(if k=21 then s.exprIn else s)=s1:=⟨_,rfl⟩
 have h1:s1.mr=s.mr/\s.ws <+: s1.ws:=by
  rw [<-hs1];split
  ·exact ⟨(eM s).2.2.1,jX s⟩
  ·exact ⟨rfl,List.prefix_rfl⟩
 have h2:MkH (s1.mark k):=by
  unfold Sy.mark
  split
  ·rename_i hc
   intro m e;cases e;refine ⟨Nat.le_refl _,?_⟩;show (s1.ws.take s1.ws.length).any aX=true;rw [List.take_length]
   rcases hk with hk|hk
   ·exact eS h1.2 hk
   ·rw [hk] at hc;cases hc.1
  ·exact iW h h1.1 h1.2
 unfold Sy.opens;simp only;rw [hs1];exact iW (s:=s1.mark k) h2 (dF { (s1.mark k) with ns:=⟨k,0,false⟩ :: (s1.mark k).ns } (opP k)).2.2.1 (dG { (s1.mark k) with ns:=⟨k,0,false⟩ :: (s1.mark k).ns } (opP k))
theorem vA (hB:Brk o):∀{s:Sy},MkH s->(s.ws.any aX=true\/∀e∈o,e.k=1->dj e.n=false)->MkH (az s o):=by
 induction o with
 |nil=>intro s h _;exact h
 |cons e o ih=>
  intro s h hk;rw [bM];have hB':Brk o:=fun x hx=>hB x (List.mem_cons_of_mem _ hx)
  have hk':∀u:Sy,s.ws <+: u.ws->(u.ws.any aX=true\/∀e∈o,e.k=1->dj e.n=false):=fun u hu=>hk.imp (eS hu) (fun hh x hx=>hh x (List.mem_cons_of_mem _ hx))
  rcases hB e (List.mem_cons_self ..) with h2|h2
  ·rw [bO s h2];exact ih hB' (sI h e.n (hk.imp id (fun hh=>hh e (List.mem_cons_self ..) h2))) (hk' _ (kJ s _))
  ·rw [bK s h2];refine ih hB' (iW h ?_ (eO s)) (hk' _ (eO s));unfold Sy.leaves;split <;> rfl
def ow (t:Tv):Prop:=t.k=1\/t.k=2\/t.k=3
def wU (t:Tv):Prop:=t.k=6/\t.t.data.toList.head?.elim false iM.contains=true
theorem Bl:cW.Dyn ow:=by
 refine ⟨?_,?_,?_,?_,fun _=>rfl⟩
 ·intro n k x t h hb h1 h2;subst h1 h2;have h':(decide (t.k=6) || g9 n t.k t.t)=true:=h;rw [Bool.or_eq_true] at h'
  rcases h' with h'|h'
  ·have:=of_decide_eq_true h'
   rcases hb with hb|hb|hb <;> omega
  ·exact h'
 ·intro h;cases h
 ·intro d h;refine ⟨(fun e=>by subst e;cases h),fun t hb e=>?_⟩
  rcases hb with hb|hb|hb <;> omega
 ·intro n m h;exact of_decide_eq_true h
theorem Bm:cD.Dyn wU:=by
 refine ⟨?_,?_,?_,?_,fun _=>rfl⟩
 ·intro n k x t h hb h1 h2;subst h1 h2;have h':(!(decide (t.k=6) && (t.t.data.toList.head?.elim false iM.contains)) || g9 n t.k t.t)=true:=h;rw [decide_eq_true hb.1,hb.2] at h'
  simpa using h'
 ·intro _ t hb;have:=hb.1;omega
 ·intro d h;cases h
 ·intro n m h;cases h
def dN (t:Tv):Prop:=t.k=7\/t.k=8
def qh (t:Tv):Prop:=t.k=6/\um.contains t.t.data.toList=true
structure PI (K:List It) (n:Int) (s:Sy):Prop where
 gd:eU (.live K n)
 ks:s.ks=lvs K
 mr:s.mr=none
 ne:∀d∈s.ws,d≠dE
 sn:∃L,Snd L s
 oW:okK cW K=true
 oD:okK cD K=true
 oN:okK cN K=true
 nH:s.ws.any aX=true\/dr cN (beg K n)=true
def LI (u:Option Tv) (K:List It) (n:Int) (s:Sy):Prop:=match u with
 |none=>s.wr=false
 |some u=>s.wr=true/\(u.k=7->s.en=true)/\(¬dN u->(s.ws.any bm=true\/(ow u->dr cW (beg K n)=true))/\(s.ws.any bm=true\/(qh u->dr cD (beg K n)=true)))
structure CP (u:Option Tv) (G:List Dc) (t:Tv):Prop where
 fine:∀d∈G,rt d=true/\d.k≠1
 hb:dE∈G->HbE G
 nb:dN t->G.any sV=false
 nf:dN t->u≠none->(t.f=0↔G.any aX=false)
 l7:∀x,u=some x->x.k=7->G.any aX=true
 lN:∀x,u=some x->¬dN x->dN t->G.any bm=true
 lL:∀x,u=some x->¬dN x->¬dN t->G.any bm=true\/(¬(ow x/\ow t)/\¬(qh x/\wU t))
theorem wP (h:PI K n s):okK cW (beg K n)=true/\okK cD (beg K n)=true/\okK cN (beg K n)=true:=by
 unfold beg
 split
 ·have hK:K=[]:=by
   rename_i hn
   have hn':n=0:=by simpa using hn
   rcases h.gd.2 with h2|h2
   ·exact h2.2
   ·have:=fZ h2;have:=h.gd.1.lv;omega
  rw [hK];exact ye
 ·exact ⟨h.oW,h.oD,h.oN⟩
theorem wQ (h:n≠0):beg K n=K:=by unfold beg;rw [if_neg (by simpa using h)]
theorem ov (h:PI K n s):(az s (aT n)).ks=lvs (beg K n)/\(az s (aT n)).ws=s.ws/\(az s (aT n)).mr=none/\(az s (aT n)).en=s.en/\(az s (aT n)).wr=s.wr/\(az s (aT n)).pt=s.pt/\(∃L,Snd L (az s (aT n))):=by
 obtain ⟨b1,b2,b3,b4,b5,hbot,hbn,hbe⟩:=cm h.gd;obtain ⟨c1,c2⟩:=fQ n;obtain ⟨f1,f2,f3⟩:=iz c1 s;have hk:=(gn c1 c2 s (l:=lvs (beg K n)) (by rw [h.ks];exact b4)).2;obtain ⟨L,hL⟩:=h.sn
 have hws:(az s (aT n)).ws=s.ws/\(az s (aT n)).mr=s.mr:=by
  unfold aT
  split
  ·show (s.step ⟨1,1,tv0⟩).1.ws=s.ws/\(s.step ⟨1,1,tv0⟩).1.mr=s.mr
   rw [bO s rfl];exact ⟨rfl,rfl⟩
  ·exact ⟨rfl,rfl⟩
 exact ⟨hk,hws.1,hws.2.trans h.mr,f1,f3,f2,L,mS c1 hL⟩
theorem ia (hc:c.Ok) {t:Tv}{k:Nat}{K:List It}{n:Int}{E:List Ev}{R:Ro}(h:Ru t k K n E R):∀{L:List It}{m:Int}{F:List Ev},R=.yes L m F->okK c K=true->okK c L=true/\∃x:Fl,x.takes t=true/\(x.en c (aE L)=true->dr c L=true):=by
 induction h with
 |nil=>intro L m F h;cases h
 |ref _=>intro L m F h;cases h
 |tk hs=>
  rename_i i K n E
  intro L m F h hk;cases h
  obtain ⟨x,rfl,hx⟩:∃x,i=.fl x/\x.takes t=true:=by
   cases i with
   |fl x=>
    refine ⟨x,rfl,?_⟩;cases x with
    |mt m=>exfalso;simp only [It.step,Fl.step] at hs;cases hrow:M.row t m <;> rw [hrow] at hs <;> cases hs
    |_=>simp only [It.step,Fl.step] at hs;split at hs;assumption;cases hs
   |_=>cases hs
  simp only [okK,Bool.and_eq_true,Bool.or_eq_true,Bool.not_eq_true'] at hk;refine ⟨hk.2,x,hx,fun e=>?_⟩
  rcases hk.1.2 with h1|h1
  ·rw [show (It.fl x).en c (aE K)=x.en c (aE K) from rfl,e] at h1;cases h1
  ·exact h1
 |go hs _ ih=>
  intro L m F h hk;exact ih h (uk c hc hs hk)
theorem mA {p:Pz}(hp:p≠.X):∀(l:List Pz) (s:Sy),p∈l->p.d∈(s.aws l).ws
 |q :: l,s,h=>by
  rw [bA]
  rcases List.mem_cons.1 h with rfl|h
  ·have:p.d∈(s.aw p).ws:=by
    rw [kV];refine List.mem_append_right _ ?_;unfold awW;rw [if_neg (fun hh=>hp hh.1)];exact List.mem_singleton.2 rfl
   exact (dG _ l).subset this
  ·exact mA hp l _ h
theorem ry (s:Sy) (h:l.any kc=true):(s.aws l).ws.any bm=true:=by
 obtain ⟨p,h1,h2⟩:=List.any_eq_true.1 h;have hx:p≠.X:=fun e=>by subst e;cases h2
 refine List.any_eq_true.2 ⟨p.d,mA hx l s h1,?_⟩;cases p <;> first|(cases h2;done)|rfl
theorem zx (s:Sy) (h:l.any pj=true):(s.aws l).ws.any aX=true:=by
 obtain ⟨p,h1,h2⟩:=List.any_eq_true.1 h;have hx:p=.H:=of_decide_eq_true h2;subst hx;exact List.any_eq_true.2 ⟨_,mA (by decide) l s h1,rfl⟩
theorem kE {f:Dc->Bool}{a:Fx}(fd:Int) (h:(s.aws a.pz).ws.any f=true):(s.ready a fd).ws.any f=true:=by
 have h1:((s.aws a.pz).emp fd).ws.any f=true:=by
  unfold Sy.emp
  split
  ·exact h
  ·split
   ·exact h
   ·rename_i m _ _
    show ((s.aws a.pz).ws.take m++dE :: (s.aws a.pz).ws.drop m).any f=true
    rw [<-List.take_append_drop m (s.aws a.pz).ws,List.any_append,Bool.or_eq_true] at h;rw [List.any_append,List.any_cons,Bool.or_eq_true,Bool.or_eq_true];exact h.imp id .inr
 have h2:((s.aws a.pz).emp fd).endl.ws.any f=true:=by
  unfold Sy.endl
  split
  ·show (dH :: ((s.aws a.pz).emp fd).ws).any f=true
   rw [List.any_cons,h1,Bool.or_true]
  ·exact h1
 unfold Sy.ready
 generalize ((s.aws a.pz).emp fd).endl=u at h2
 unfold Sy.part
 split
 ·show (u.ws++[dS]).any f=true
  rw [List.any_append,h2,Bool.true_or]
 ·exact h2
def NE (s:Sy):Prop:=∀d∈s.ws,d≠dE
theorem B6 (p:Pz):p.d≠dE:=by cases p <;> (intro h;cases h)
theorem NE.aws {s:Sy}(h:NE s) (l:List Pz):NE (s.aws l):=by
 induction l generalizing s with
 |nil=>exact h
 |cons p l ih=>
  rw [bA];refine ih (fun d hd=>?_);rw [kV] at hd
  rcases List.mem_append.1 hd with hd|hd
  ·exact h d hd
  ·unfold awW at hd
   split at hd
   ·cases hd
   ·rw [List.mem_singleton] at hd;rw [hd];exact B6 p
theorem NE.exprIn (h:NE s):NE s.exprIn:=by
 unfold Sy.exprIn
 split
 ·exact h
 ·rename_i n r e
  show ∀d∈(if n.k=19 then s.aws [.S,.I 3] else if n.k=31/\n.s=false then s.aws [.B0] else s).ws,d≠dE
  split
  ·exact h.aws _
  ·split
   ·exact h.aws _
   ·exact h
theorem NE.opens (h:NE s) (k:Int):NE (s.opens k):=by
 unfold Sy.opens;simp only;refine NE.aws (s:={ ((if k=21 then s.exprIn else s).mark k) with ns:=⟨k,0,false⟩ :: ((if k=21 then s.exprIn else s).mark k).ns }) ?_ _;intro d hd;have hd':d∈((if k=21 then s.exprIn else s).mark k).ws:=hd;rw [lQ] at hd'
 split at hd'
 ·exact h.exprIn d hd'
 ·exact h d hd'
theorem NE.leaves (h:NE s):NE s.leaves:=by
 unfold Sy.leaves
 split
 ·exact h
 ·intro d hd;have hd':d∈s.ws++List.replicate _ dX++(if _ then [dH] else []):=hd
  rcases List.mem_append.1 hd' with hd|hd
  ·rcases List.mem_append.1 hd with hd|hd
   ·exact h d hd
   ·rw [List.eq_of_mem_replicate hd];intro e;cases e
  ·split at hd
   ·rw [List.mem_singleton] at hd;rw [hd];intro e;cases e
   ·cases hd
theorem NE.fold (hB:Brk o):∀{s:Sy},NE s->NE (az s o):=by
 induction o with
 |nil=>intro s h;exact h
 |cons e o ih=>
  intro s h;rw [bM];refine ih (fun x hx=>hB x (List.mem_cons_of_mem _ hx)) ?_
  rcases hB e (List.mem_cons_self ..) with h2|h2
  ·rw [bO s h2];exact h.opens e.n
  ·rw [bK s h2];exact h.leaves
theorem so (hn:NE s) (hm:MkH s) (a:Fx) (f:Int):(dE∈(s.ready a f).ws->HbE (s.ready a f).ws)/\∀f',(s.wr=true->(2<=f'↔dE∈(s.ready a f).ws))->s.ready a f'=s.ready a f:=by
 obtain ⟨v,hv⟩:∃v,s.aws a.pz=v:=⟨_,rfl⟩;have hnv:NE v:=by rw [<-hv];exact hn.aws _
 have hmv:MkH v:=by rw [<-hv];exact iW hm (dF s a.pz).2.2.1 (dG s _)
 have hwv:v.wr=s.wr:=by
  rw [<-hv]
  have haw:∀(l:List Pz) (s:Sy),(s.aws l).wr=s.wr:=by
   intro l
   induction l with
   |nil=>intro s;rfl
   |cons p l ih=>intro s;rw [bA];exact ih (s.aw p)
  exact haw _ _
 have tl:∀u:Sy,∃x y:List Dc,u.endl.part.ws=x++(u.ws++y)/\dE∉x/\dE∉y:=by
  intro u
  have h1:∃x,u.endl.ws=x++u.ws/\dE∉x:=by
   unfold Sy.endl
   split
   ·exact ⟨[dH],rfl,by intro h;simp at h;cases h⟩
   ·exact ⟨[],rfl,by simp⟩
  obtain ⟨x,hx,hx2⟩:=h1;unfold Sy.part
  split
  ·exact ⟨x,[dS],by show u.endl.ws++[dS]=_;rw [hx,List.append_assoc],hx2,by intro h;simp at h;cases h⟩
  ·exact ⟨x,[],by rw [hx,List.append_nil],hx2,by simp⟩
 unfold Sy.ready;rw [hv]
 by_cases hc:∃m,v.mr=some m/\v.wr=true/\(v.ws.take m).any aK=false
 ·obtain ⟨m,hm1,hm2,hm3⟩:=hc
  have hemp:∀f,v.emp f=if f<2 then v else { v with ws:=v.ws.take m++dE :: v.ws.drop m }:=by
   intro f;unfold Sy.emp;rw [hm1];show (if f<2\/v.wr=false\/(v.ws.take m).any aK=true then v else _)=_
   by_cases hf:f<2
   ·rw [if_pos (.inl hf),if_pos hf]
   ·rw [if_neg (by rw [hm2,hm3];rintro (h|h|h);exact hf h;cases h;cases h),if_neg hf]
  have mem:∀f,dE∈(v.emp f).endl.part.ws↔2<=f:=by
   intro f;obtain ⟨x,y,e,hx,hy⟩:=tl (v.emp f);rw [e,hemp f]
   by_cases hf:f<2
   ·rw [if_pos hf];constructor
    ·intro h
     rcases List.mem_append.1 h with h|h
     ·exact absurd h hx
     ·rcases List.mem_append.1 h with h|h
      ·exact absurd rfl (hnv dE h)
      ·exact absurd h hy
    ·intro h;omega
   ·rw [if_neg hf];refine ⟨fun _=>by omega,fun _=>?_⟩;refine List.mem_append_right _ (List.mem_append_left _ ?_);show dE∈v.ws.take m++dE :: v.ws.drop m;simp
  refine ⟨fun h=>?_,fun f' h=>?_⟩
  ·have hf:=(mem f).1 h;obtain ⟨x,y,e,hx,hy⟩:=tl (v.emp f);rw [e,hemp f,if_neg (by omega)];refine ⟨x++v.ws.take m,v.ws.drop m++y,by simp,?_⟩;rw [List.any_append,(hmv m hm1).2,Bool.or_true]
  ·have h2:=(h (by rw [<-hwv];exact hm2)).trans (mem f);rw [hemp f',hemp f]
   by_cases hf:f<2
   ·rw [if_pos hf,if_pos (by omega)]
   ·rw [if_neg hf,if_neg (by omega)]
 ·have hemp:∀f,v.emp f=v:=by
   intro f;unfold Sy.emp
   split
   ·rfl
   ·rename_i m hm1
    rw [if_pos]
    by_cases h1:v.wr=true
    ·right;right
     cases hb:(v.ws.take m).any aK with
     |true=>rfl
     |false=>exact absurd ⟨m,hm1,h1,hb⟩ hc
    ·right;left;simpa using h1
  refine ⟨fun h=>?_,fun f' _=>by rw [hemp f',hemp f]⟩
  exfalso
  obtain ⟨x,y,e,hx,hy⟩:=tl (v.emp f);rw [e,hemp f] at h
  rcases List.mem_append.1 h with h|h
  ·exact hx h
  ·rcases List.mem_append.1 h with h|h
   ·exact hnv dE h rfl
   ·exact hy h
theorem oO {L:List Dc}(h:Snd L s):∀d∈s.ws,rt d=true:=by
 have:∀(l:List Dc) (o x:Int),rnD o l=some x->∀d∈l,rt d=true:=by
  intro l
  induction l with
  |nil=>intro o x _ d hd;cases hd
  |cons a l ih=>
   intro o x h d hd;simp only [rnD] at h
   split at h
   ·rename_i hc
    rcases List.mem_cons.1 hd with rfl|hd
    ·exact hc.1
    ·exact ih _ _ h d hd
   ·cases h
 exact fun d hd=>this _ _ _ h.r d (List.mem_append_right _ hd)
theorem jk {x:Fl}(ht:x.takes t=true) {n:Int}(h1:c.tE n t.k t.t=true) (h2:t.k=1\/t.k=3\/t.k=4\/t.k=5->c.nE=true):x.en c n=true:=by
 cases x with
 |wd k ts=>
  simp only [Fl.takes,Bool.and_eq_true,beq_iff_eq] at ht;obtain ⟨y,e1,e2⟩:=List.any_eq_true.1 ht.2;have e3:t.t=y:=of_decide_eq_true e2;exact List.any_eq_true.2 ⟨y,e1,by rw [<-ht.1,<-e3];exact h1⟩
 |nm=>simp only [Fl.takes,beq_iff_eq] at ht;exact h2 (.inl ht)
 |cs=>
  simp only [Fl.takes,Bool.or_eq_true,beq_iff_eq] at ht;refine h2 ?_
  rcases ht with (ht|ht)|ht
  ·exact .inr (.inl ht)
  ·exact .inr (.inr (.inl ht))
  ·exact .inr (.inr (.inr ht))
 |mt m=>cases ht
theorem sQ {u:Option Tv}(hP:PI K n s) (hL:LI u K n s) (hc:¬dN t) {kk:Nat}{L:List It}{m:Int}{E:List Ev}(hR:Ru t kk (beg K n) (cu n) (aT n) (.yes L m E)) (hg:eU (.live L m)) (hrt:rtT t.t=true) :
  ∃G,((az s E).leaf t).2=G++[dT t.t]/\CP u G t/\PI L m ((az s E).leaf t).1/\LI (some t) L m ((az s E).leaf t).1/\∀t':Tv,t'.k=t.k->t'.t=t.t->(u≠none->(2<=t'.f↔dE∈G))->(az s E).leaf t'=(az s E).leaf t:=by
 obtain ⟨b1,b2,b3,b4,b5,hbot,hbn,hbe⟩:=cm hP.gd;obtain ⟨k0,k1,k2,k3,k4,k5,L0,hS0⟩:=ov hP;obtain ⟨c1,c2⟩:=fQ n;obtain ⟨oW,oD,oN⟩:=wP hP;obtain ⟨d1,d2,d3,o,d4,d5,d6,d7⟩:=eI hR rfl b1 b2 b3;have hB:Brk o:=fun e he=>(d6 e he).2.1
 have hnod:∀e∈o,e.k=1->1<=e.n/\e.n<=32:=fun e he=>jt hR rfl c2 e (by rw [d4];exact List.mem_append_right _ he)
 obtain ⟨s0,hs0⟩:∃s0,az s (aT n)=s0:=⟨_,rfl⟩;rw [hs0] at k0 k1 k2 k3 k4 k5 hS0;have hfold:az s E=az s0 o:=by rw [d4,kC,hs0]
 rw [hfold];obtain ⟨f1,f2,f3⟩:=iz hB s0;have hks:=(gn hB hnod s0 (l:=lvs L) (by rw [k0];exact d5)).2;have hS1:=mS hB hS0;have hNE:NE (az s0 o):=NE.fold hB (show NE s0 by unfold NE;rw [k1];exact hP.ne)
 have hMk:MkH (az s0 o):=by
  refine vA hB (fun m hm=>by rw [k2] at hm;cases hm) ?_
  rcases hP.nH with h|h
  ·exact .inl (by rw [k1];exact h)
  ·obtain ⟨o2,e1,e2⟩:=dynN hR rfl b1 h;rw [d4] at e1;have:=List.append_cancel_left e1;subst this;exact .inr e2
 have dW:∀(c:Cl) (bad:Tv->Prop),c.Dyn bad->bad t->dr c (beg K n)=true->(az s0 o).ws.any bm=true\/g9 (aE L) t.k t.t=true:=by
  intro c bad hd hb hbar;obtain ⟨o2,e1,_,_,e4⟩:=dyn hd hb hR rfl b1 b2 b3 hbar s0 k0;rw [d4] at e1;have:=List.append_cancel_left e1;subst this;exact e4
 have hpre:=kB hB s0;obtain ⟨s1,hs1⟩:∃s1,az s0 o=s1:=⟨_,rfl⟩;rw [hs1] at f1 f2 f3 hks hS1 hNE hMk dW hpre ⊢;have hlen:=fZ (lu hR rfl hbot)
 obtain ⟨n0,r0,hns⟩:∃n0 r0,s1.ns=n0 :: r0:=by
  cases hc:s1.ns with
  |nil=>unfold Sy.ks at hks;rw [hc] at hks;rw [<-hks] at hlen;exact absurd hlen (by decide)
  |cons a b=>exact ⟨a,b,rfl⟩
 have hne:s1.ns≠[]:=by rw [hns];exact List.cons_ne_nil _ _
 have hnk:n0.k=aE L:=by rw [kK,<-hks];unfold Sy.ks;rw [hns];rfl
 have hlf:∀t:Tv,s1.leaf t=((s1.ready (au n0 t).a t.f).after (au n0 t).b,(s1.ready (au n0 t).a t.f).ws++[dT t.t]):=by
  intro t;unfold Sy.leaf;rw [hns]
 obtain ⟨hSn,_,hkn⟩:=hS1.leaf hne t hrt;obtain ⟨r1,r2⟩:=so hNE hMk (au n0 t).a t.f;have hSr:Snd L0 (s1.ready (au n0 t).a t.f):=((((hS1.aws hne _ (lW _)).emp t.f).endl).part);obtain ⟨G,hG⟩:∃G,(s1.ready (au n0 t).a t.f).ws=G:=⟨_,rfl⟩;have hgpre:∀f:Dc->Bool,s1.ws.any f=true->G.any f=true:=fun f h=>by rw [<-hG];exact kE t.f (eS (dG _ _) h)
 have hgsep:g9 (aE L) t.k t.t=true->G.any bm=true:=fun h=>by
  rw [<-hG];refine kE t.f (ry _ (xL ?_));rw [hnk];exact h
 have hwr:u≠none->s1.wr=true:=by
  intro hu;rw [f3,k4];cases u with
  |none=>exact absurd rfl hu
  |some x=>exact hL.1
 have hunr:s1.wr=true->u≠none:=by
  intro h1 h2;subst h2;rw [f3,k4,show s.wr=false from hL] at h1;cases h1
 have hm0:m≠0:=by have:=hg.1.lv;omega
 have hbeg:beg L m=L:=wQ hm0;refine ⟨G,by rw [hlf,hG],?_,?_,?_,?_⟩
 ·refine ⟨?_,fun h=>by rw [<-hG] at h ⊢;exact r1 h,fun h=>absurd h hc,fun h=>absurd h hc,?_,fun _ _ _ h=>absurd h hc,?_⟩
  ·rw [<-hG];exact fun d hd=>⟨oO hSr d hd,hSr.n d hd⟩
  ·intro x hx h7;subst hx;rw [<-hG];exact uJ (by rw [f1,k3];exact hL.2.1 h7) _ _
  ·intro x hx hnx hnt;subst hx;obtain ⟨l1,l2⟩:=hL.2.2 hnx
   by_cases hgp:s.ws.any bm=true
   ·exact .inl (hgpre _ (eS hpre (by rw [k1];exact hgp)))
   ·by_cases hw:ow x/\ow t
    ·have hbar:=(l1.resolve_left hgp) hw.1
     rcases dW cW ow Bl hw.2 hbar with h|h
     ·exact .inl (hgpre _ h)
     ·exact .inl (hgsep h)
    ·by_cases hd:qh x/\wU t
     ·have hbar:=(l2.resolve_left hgp) hd.1
      rcases dW cD wU Bm hd.2 hbar with h|h
      ·exact .inl (hgpre _ h)
      ·exact .inl (hgsep h)
     ·exact .inr ⟨hw,hd⟩
 ·have hws:(s1.leaf t).1.ws=(Sy.aws ⟨(s1.ready (au n0 t).a t.f).ns,[],none,true,false,false⟩ (au n0 t).b.pz).ws:=by rw [hlf];rfl
  refine ⟨hg,by rw [hkn];exact hks,?_,?_,⟨_,hSn⟩,(ia zV hR rfl oW).1,(ia zY hR rfl oD).1,(ia zW hR rfl oN).1,?_⟩
  ·rw [hlf];exact (dF ⟨(s1.ready (au n0 t).a t.f).ns,[],none,true,false,false⟩ (au n0 t).b.pz).2.2.1
  ·rw [hws];exact NE.aws (s:=⟨(s1.ready (au n0 t).a t.f).ns,[],none,true,false,false⟩) (fun d hd=>(nomatch (show d∈([]:List Dc) from hd))) _
  ·rw [hbeg]
   by_cases hh:((au n0 t).b.pz).any pj=true
   ·exact .inl (by rw [hws];exact zx _ hh)
   ·obtain ⟨_,x,hx,hxe⟩:=ia zW hR rfl oN;refine .inr (hxe (jk hx ?_ (fun _=>rfl)));have:=yI (n:=n0) (t:=t) (by simpa using hh);rw [hnk] at this;show (!Cg (aE L) t.k t.t)=true;rw [this];rfl
 ·have hws:(s1.leaf t).1.ws=(Sy.aws ⟨(s1.ready (au n0 t).a t.f).ns,[],none,true,false,false⟩ (au n0 t).b.pz).ws:=by rw [hlf];rfl
  have hwr2:(s1.leaf t).1.wr=true:=by
   have haw:∀(l:List Pz) (s:Sy),(s.aws l).wr=s.wr:=by
    intro l
    induction l with
    |nil=>intro s;rfl
    |cons p l ih=>intro s;rw [bA];exact ih (s.aw p)
   rw [hlf];exact haw _ _
  have sb:(s1.leaf t).1.ws.any bm=false->Av (aE L) t.k t.t=false:=by
   intro h;rw [<-hnk];refine xK ?_;cases hq:((au n0 t).b.pz).any kc with
   |false=>rfl
   |true=>rw [hws,ry _ hq] at h;cases h
  refine ⟨hwr2,fun h=>absurd (.inl h) hc,fun _=>⟨?_,?_⟩⟩
  ·cases hq:(s1.leaf t).1.ws.any bm with
   |true=>exact .inl rfl
   |false=>
    refine .inr (fun hb=>?_);rw [hbeg];obtain ⟨_,x,hx,hxe⟩:=ia zV hR rfl oW;refine hxe (jk hx ?_ (fun _=>rfl));show (!decide (t.k=6) && !Av (aE L) t.k t.t)=true;rw [sb hq,decide_eq_false (by rcases hb with h|h|h <;> omega)];rfl
  ·cases hq:(s1.leaf t).1.ws.any bm with
   |true=>exact .inl rfl
   |false=>
    refine .inr (fun hb=>?_);rw [hbeg];obtain ⟨_,x,hx,hxe⟩:=ia zY hR rfl oD;refine hxe (jk hx ?_ (fun h=>?_))
    ·show (decide (t.k=6) && (um.contains t.t.data.toList && !Av (aE L) t.k t.t))=true
     rw [sb hq,decide_eq_true hb.1,hb.2];rfl
    ·have:=hb.1;omega
 ·intro t' e1 e2 hf;have hro:au n0 t'=au n0 t:=by unfold au;rw [e1,e2]
  rw [hlf t',hlf t,hro,e2,r2 t'.f (fun h=>by rw [hG];exact hf (hunr h))]
end Go.Proofs.YtpdlohfdjiaegaaGreatDoor
