import Derived.Test.YtcjiapphbpiffaaGreatDoorM13
import Derived.Test.YtcjiapphbpiffaaGreatDoorM36
set_option linter.unusedVariables false
set_option linter.unusedSimpArgs false
namespace Go.Proofs.YtcjiapphbpiffaaGreatDoor
open Go.RowKit
open Lw (Dc bE rt cG dD fu iC jw fJ puts jZ eQ qK xI)
def Pu (G:List Dc):Prop:=∃A B,G=A++dE :: B/\A.any bI=true
def CW (d:Dc):Bool:=decide (d.k=3)
structure GI (O:List UInt8) (G:List Dc) (a:Nat) (p:Lw.Pr):Prop where
 out:p.sk.out=O++List.replicate a 10
 st:(a=0/\p.sk.fresh=false/\p.en=false)\/(a=1/\p.sk.fresh=true/\p.en=true/\p.sk.wait=0)\/(a=2/\p.sk.fresh=true/\p.en=false/\p.sk.wait=0)
 hd:G.any bI=true->1<=a
 e2:a=2->dE∈G
 he:Pu G->a=2
 no:1<=a->G.any bI=true\/G.any CW=true
 gp:G.any bU=true->1<=a\/1<=p.sk.wait
theorem pT {O:List UInt8}{p:Lw.Pr}(C:p.sk.out=O) (F:p.sk.fresh=false) (G:p.en=false):GI O [] 0 p:=
 ⟨by rw [C];simp,.inl ⟨rfl,F,G⟩,(fun h=>by cases h),(fun h=>by cases h),(fun ⟨A,B,e,_⟩=>by simp at e),(fun h=>by omega),(fun h=>by cases h)⟩
theorem AS {G:List Dc}{d:Dc}(h:Pu (G++[d])):Pu G\/(d=dE/\G.any bI=true):=by
 obtain ⟨A,B,e,F⟩:=h
 rcases List.eq_nil_or_concat B with rfl|⟨C,x,rfl⟩
 ·have:=Vs e rfl;rw [this.1];injection this.2 with h1
  exact .inr ⟨h1,F⟩
 ·refine .inl ⟨A,C,?_,F⟩;have H:G++[d]=(A++dE :: C)++[x]:=by rw [e];simp
  exact (Vs H rfl).1
theorem GI.same {O:List UInt8}{G:List Dc}{a:Nat}{p q:Lw.Pr}(h:GI O G a p) (d:Dc) (Y:q.sk.out=p.sk.out) (J:q.sk.fresh=p.sk.fresh) (M:q.en=p.en) (C:q.sk.wait=p.sk.wait\/(p.sk.fresh=false/\p.sk.wait<=q.sk.wait)) (Z:bI d=true->1<=a) (h6:d=dE->a≠1) (h7:bU d=true->1<=a\/1<=q.sk.wait):GI O (G++[d]) a q:=by
 refine ⟨by rw [Y];exact h.out,?_,?_,fun e=>We _ (h.e2 e),?_,?_,?_⟩
 ·rcases h.st with ⟨F,H,I⟩|⟨F,H,I,Q⟩|⟨F,H,I,Q⟩
  ·exact .inl ⟨F,by rw [J,H],by rw [M,I]⟩
  ·rcases C with C|⟨C,_⟩
   ·exact .inr (.inl ⟨F,by rw [J,H],by rw [M,I],by rw [C,Q]⟩)
   ·rw [H] at C;cases C
  ·rcases C with C|⟨C,_⟩
   ·exact .inr (.inr ⟨F,by rw [J,H],by rw [M,I],by rw [C,Q]⟩)
   ·rw [H] at C;cases C
 ·intro e;rw [TC,Th] at e
  rcases e with e|e
  ·exact h.hd e
  ·exact Z (by simpa using e)
 ·intro e
  rcases AS e with e|⟨S,U⟩
  ·exact h.he e
  ·have:=h.hd U;have:=h6 S
   rcases h.st with ⟨F,_⟩|⟨F,_⟩|⟨F,_⟩ <;> omega
 ·intro e
  rcases h.no e with x|x
  ·exact .inl (by rw [TC,x,VC])
  ·exact .inr (by rw [TC,x,VC])
 ·intro e;rw [TC,Th] at e
  rcases e with e|e
  ·rcases h.gp e with x|x
   ·exact .inl x
   ·exact .inr (by rcases C with C|⟨_,C⟩ <;> omega)
  ·exact h7 (by simpa using e)
theorem GI.put {O:List UInt8}{G:List Dc}{a:Nat}{p:Lw.Pr}(h:GI O G a p) {n m:Nat}{d:Dc}(hd:rt d=true) (h1:d.k≠1):∃J,GI O (G++[d]) J (Lw.put n d m p):=by
 have hold:∀k,bI d=false->d≠dE->(bU d=true->1<=k)->GI O (G++[d]) a (p.hold k):=by
  intro k n1 S n3;unfold Lw.Pr.hold
  split
  ·rename_i F
   refine h.same d rfl rfl rfl (.inl rfl) (fun e=>by rw [n1] at e;cases e) (fun e=>absurd e S) (fun _=>?_)
   rcases h.st with ⟨H,I,_⟩|⟨H,_⟩|⟨H,_⟩
   ·rw [I] at F;cases F
   ·exact .inl (by omega)
   ·exact .inl (by omega)
  ·rename_i F
   have C:p.sk.fresh=false:=by simpa using F
   refine h.same d rfl rfl rfl (.inr ⟨C,Nat.le_add_right _ _⟩) (fun e=>by rw [n1] at e;cases e) (fun e=>absurd e S) (fun e=>.inr ?_);show 1<=p.sk.wait+k;have:=n3 e;omega
 have endl:d≠dE->(bI d=true\/CW d=true)->∃J,GI O (G++[d]) J p.endl:=by
  intro S n3;unfold Lw.Pr.endl
  split
  ·rename_i F
   have Y:1<=a:=by
    rcases h.st with ⟨H,I,_⟩|⟨H,_⟩|⟨H,_⟩
    ·rw [I] at F;cases F
    ·omega
    ·omega
   exact ⟨a,h.same d rfl rfl rfl (.inl rfl) (fun _=>Y) (fun e=>absurd e S) (fun _=>.inl Y)⟩
  ·rename_i F
   have C:p.sk.fresh=false:=by simpa using F
   have Y:a=0:=by
    rcases h.st with ⟨H,_⟩|⟨_,I,_⟩|⟨_,I,_⟩
    ·exact H
    ·rw [I] at C;cases C
    ·rw [I] at C;cases C
   subst Y;refine ⟨1,?_,.inr (.inl ⟨rfl,rfl,rfl,rfl⟩),fun _=>gt _,(fun e=>by cases e),?_,?_,fun _=>.inl (gt _)⟩
   ·show p.sk.out++[10]=_
    rw [h.out];simp
   ·intro e
    rcases AS e with e|⟨e1,_⟩
    ·exact absurd (h.he e) (by decide)
    ·exact absurd e1 S
   ·intro _
    rcases n3 with x|x
    ·exact .inl (by rw [TC];simp [x])
    ·exact .inr (by rw [TC];simp [x])
 cases Lw.mO hd with
 |text t hq=>exact absurd rfl h1
 |brk k hq=>
  show ∃J,GI O _ J (if p.brk n m then p.endl else p.hold k.toNat)
  split
  ·exact endl (fun e=>by cases e) (.inr rfl)
  ·refine ⟨a,hold _ rfl (fun e=>by cases e) (fun e=>?_)⟩;have Z:(⟨3,bE,k,0,false⟩:Dc)=dB 1:=by simpa [bU] using e
   injection Z with _ _ Z
   rw [Z];decide
 |beg k e hq=>
  refine ⟨a,h.same _ rfl rfl rfl (.inl rfl) (fun e=>by cases e) (fun e=>by cases e) (fun e=>?_)⟩;simp [bU,dB] at e
 |blank=>exact ⟨a,hold 1 rfl (fun e=>by cases e) (fun _=>gt _)⟩
 |hard=>exact endl (fun e=>by cases e) (.inl rfl)
 |empty=>
  show ∃J,GI O _ J (if p.en then { p with sk:=p.sk.empty,en:=false } else p)
  split
  ·rename_i Q
   have hx:a=1/\p.sk.fresh=true/\p.sk.wait=0:=by
    rcases h.st with ⟨_,_,U⟩|⟨H,I,_,x4⟩|⟨_,_,U,_⟩
    ·rw [U] at Q;cases Q
    ·exact ⟨H,I,x4⟩
    ·rw [U] at Q;cases Q
   obtain ⟨rfl,F,hw⟩:=hx;have M:p.sk.empty=p.sk.feed p.sk.col:=by unfold fJ.empty;rw [IO F]
   refine ⟨2,?_,.inr (.inr ⟨rfl,?_,rfl,?_⟩),fun _=>by omega,fun _=>Ub _ (UE.2 rfl),fun _=>rfl,?_,fun _=>.inl (by omega)⟩
   ·show p.sk.empty.out=_
    rw [M];show p.sk.out++[10]=_;rw [h.out];simp [List.replicate]
   ·show p.sk.empty.fresh=true;rw [M];rfl
   ·show p.sk.empty.wait=0;rw [M];rfl
   ·intro _
    rcases h.no (gt _) with x|x
    ·exact .inl (by rw [TC,x,VC])
    ·exact .inr (by rw [TC,x,VC])
  ·rename_i Q
   refine ⟨a,h.same _ rfl rfl rfl (.inl rfl) (fun e=>by cases e) (fun _ e=>?_) (fun e=>by simp [bU,dB] at e)⟩
   rcases h.st with ⟨H,_⟩|⟨_,_,U,_⟩|⟨H,_⟩
   ·omega
   ·exact Q U
   ·omega
 | «end»=>exact ⟨a,h.same _ rfl rfl rfl (.inl rfl) (fun e=>by cases e) (fun e=>by cases e) (fun e=>by simp [bU,dB] at e)⟩
theorem GI.puts {O:List UInt8}{n:Nat}:∀(P:List Dc) (ms:List Nat) {G:List Dc}{a:Nat}{p:Lw.Pr},GI O G a p->(∀d∈P,rt d=true/\d.k≠1)->P.length=ms.length->∃C,GI O (G++P) C (Lw.puts n P ms p)
 |[],[],G,a,p,h,_,_=>⟨a,by rw [TG];exact h⟩
 |d :: P,m :: ms,G,a,p,h,hr,hl=>by
  obtain ⟨I,F⟩:=h.put (n:=n) (m:=m) (hr d (S4 ..)).1 (hr d (S4 ..)).2;obtain ⟨a2,h2⟩:=GI.puts P ms F (fun x H=>hr x (SZ _ H)) (by simpa using hl);exact ⟨a2,by rw [S5] at h2;exact h2⟩
structure GP (G:List Dc) (a b:Nat):Prop where
 le:a<=2
 hd:G.any bI=true->1<=a
 e2:a=2->dE∈G
 he:Pu G->a=2
 no:1<=a->G.any bI=true\/G.any CW=true
 gp:G.any bU=true->1<=a\/1<=b
theorem lV {s:fJ}{t:ByteArray}(ht:t.size≠0):(s.text t).out=s.out++((if s.fresh then List.replicate s.col 32 else [])++(List.replicate s.wait 32++jw t)):=by
 unfold fJ.text;rw [Eq ht];rfl
theorem GI.text {O:List UInt8}{G:List Dc}{a:Nat}{p:Lw.Pr}(h:GI O G a p) {n m:Nat}{t:ByteArray}(ht:t.size≠0):∃b,GP G a b/\GI (O++(List.replicate a 10++(List.replicate b 32++jw t))) [] 0 (Lw.put n (dT t) m p):=by
 have e:(Lw.put n (dT t) m p)={ p with sk:=p.sk.text t,en:=false }:=rfl;have H:(p.sk.text t).fresh=false:=by unfold fJ.text;rw [Eq ht]
 have F:∀b,(1<=p.sk.wait->1<=b)->GP G a b:=fun b I=>⟨by rcases h.st with ⟨x,_⟩|⟨x,_⟩|⟨x,_⟩ <;> omega,h.hd,h.e2,h.he,h.no,fun x=>(h.gp x).imp id I⟩
 cases C:p.sk.fresh with
 |false=>
  refine ⟨p.sk.wait,F _ id,?_⟩;rw [e];refine pT ?_ H rfl;show (p.sk.text t).out=_;rw [lV ht,C,h.out];simp
 |true=>
  refine ⟨p.sk.col+p.sk.wait,F _ (fun x=>by omega),?_⟩;rw [e];refine pT ?_ H rfl;show (p.sk.text t).out=_;rw [lV ht,C,h.out,<-List.replicate_append_replicate,IO rfl];simp only [S5]
end Go.Proofs.YtcjiapphbpiffaaGreatDoor
namespace Go.Proofs.YtcjiapphbpiffaaGreatDoor
open Go.RowKit
open Lw (Dc bE rt cG dD fu iC)
variable {s:Sy}{n:Int}{t t':Tv}{K:List It}{c:Cl}{o:List Ev}{l:List Pz}{u:Option Tv}
def Gw.nb:Gw->Prop
 |.ref=>True
 |.ex r=>∀n,DJ cN n false r=true
 |.op nd r=>fA nd=false/\DJ cN nd false r=true
theorem Nr (t:Tv) (m:M) (h:cN.mB m=true):(M.row t m).nb:=by
 cases m with
 |kind=>
  simp only [M.row]
  repeat' split
  all_goals first|exact ⟨rfl,rfl⟩|trivial
 |factor=>
  simp only [M.row]
  repeat' split
  all_goals first|exact ⟨rfl,rfl⟩|trivial|exact fun n=>rfl
 |typed=>exact fun n=>rfl
 |list=>exact fun n=>rfl
 |variables=>cases h
 |constants=>cases h
 |procedure=>cases h
 |member=>cases h
 |statement=>cases h
 |body=>cases h
 |block=>cases h
 |_=>exact ⟨rfl,rfl⟩
theorem xC {r:List It}{z:Bool}(h:DJ c n false r=true):DJ c n z r=true:=by
 induction r with
 |nil=>cases h
 |cons i r ih=>
  simp only [DJ,Tc,Th] at h ⊢;exact ⟨h.1,h.2.imp id ih⟩
theorem Sk {k:Nat}{E:List Ev}{R:Ro}(h:Ru t k K n E R):∀{L:List It}{m:Int}{F:List Ev},R=.yes L m F->j8 K->fF cN K=true->∃o,F=E++o/\∀e∈o,e.k=1->fA e.n=false:=by
 induction h with
 |nil=>intro L m F h;cases h
 |ref _=>intro L m F h;cases h
 |tk hs=>intro L m F h _ _;cases h;exact ⟨[],by simp,fun e J=>by simp at J⟩
 |go hs _ ih=>
  rename_i k i K n d E o r R _
  intro L m F h hw Z;have hi:=hw i (S4 ..);have ab:=fO (fQ (K:=K) hs hi).1 (fun j hj=>hw j (SZ _ hj));simp only [fF,Tc,Th,UL] at Z;obtain ⟨Y,Q⟩:=Z
  have go:(∀e∈o,e.k=1->fA e.n=false)->fF cN (r++K)=true->∃o,F=E++o/\∀e∈o,e.k=1->fA e.n=false:=by
   intro H h2;obtain ⟨o2,b1,b2⟩:=ih h ab h2;exact ⟨o++o2,by rw [b1,S5],fun e J=>(To.1 J).elim (H e) (b2 e)⟩
  have C:∀e∈([]:List Ev),e.k=1->fA e.n=false:=fun e J=>by simp at J
  have U:∀(p:Pk) (j:It) (K':List It),aS K'=aS K->Pk.pick t p=some j->p.ba cN (aS K)=true->fF cN (j :: K')=true:=by
   intro p j K' eK G aa;cases p with
   |fn dk=>
    simp only [Pk.pick,Ts] at G;obtain ⟨mm,I,rfl⟩:=G;show (cN.mB mm && (!false || _))=true
    have:cN.mB mm=true:=by
     cases dk with
     |declaration=>cases aa
     |bracket=>simp only [Dk.pick] at I;split at I <;> cases I;rfl
     |detail=>
      simp only [Dk.pick] at I
      split at I
      ·cases I;rfl
      ·split at I
       ·cases I;rfl
       ·split at I <;> cases I;rfl
    rw [this];rfl
   |row rr=>
    simp only [Pk.pick] at G
    split at G
    ·cases G;show (MO cN (aS K') rr && (!false || _))=true;rw [eK,show MO cN (aS K) rr=true from aa];rfl
    ·cases G
   |ex mm=>
    simp only [Pk.pick] at G
    split at G
    ·cases G
    ·cases G;have:cN.mB mm=true:=by cases mm <;> first|rfl|cases aa
     show (cN.mB mm && (!false || _))=true
     rw [this];rfl
  cases i with
  |fl x=>
   have I:∃m,x=.mt m:=by
    cases x with
    |mt m=>exact ⟨m,rfl⟩
    |_=>simp only [It.step,Fl.step] at hs;split at hs <;> cases hs
   obtain ⟨m,rfl⟩:=I;have O:=Nr t m Y;have hr:=io t m;simp only [It.step,Fl.step] at hs;cases S:M.row t m with
   |ref=>rw [S] at hs;cases hs
   |ex r'=>
    rw [S] at hs O hr;cases hs;exact go C (by rw [lu cN hr.2.2];exact xC (O _))
   |op nd r'=>
    rw [S] at hs O hr;cases hs;refine go (fun e J _=>by simp at J;subst J;exact O.1) ?_;rw [S5,lu cN hr.2.2.1];exact xC O.2
  |lv a=>
   cases hs;refine go (fun e J H=>by simp at J;subst J;cases H) ?_
   rcases Q with H|H
   ·cases H
   ·exact H
  |once p=>
   simp only [It.step] at hs;cases G:Pk.pick t p with
   |none=>
    rw [G] at hs;cases hs;refine go C ?_
    rcases Q with H|H
    ·cases H
    ·exact H
   |some j=>rw [G] at hs;cases hs;exact go C (U p j K rfl G Y)
  |again p=>
   simp only [It.step] at hs;cases G:Pk.pick t p with
   |none=>
    rw [G] at hs;cases hs;refine go C ?_
    rcases Q with H|H
    ·cases H
    ·exact H
   |some j=>rw [G] at hs;cases hs;exact go C (U p j (.again p :: K) rfl G Y)
  |all rr=>
   cases hs;refine go C ?_;rw [lu cN (kb rr)];have hb:MO cN (aS K) rr=true:=Y;cases rr with
   |nil=>cases hb
   |cons x rr=>show (x.ba cN (aS K) && (!false || _))=true;rw [show x.ba cN (aS K)=true from hb];rfl
def IN (s:Sy):Prop:=∀m,s.mr=some m->m<=s.ws.length/\(s.ws.take m).any bI=true
theorem nX {s u:Sy}(h:IN s) (G:u.mr=s.mr) (H:s.ws <+: u.ws):IN u:=by
 intro m e;rw [G] at e;obtain ⟨C,F⟩:=h m e;obtain ⟨r,hr⟩:=H;refine ⟨by rw [<-hr,Or];omega,?_⟩;rw [<-hr,TT C];exact F
theorem CG (h:IN s) (k:Int) (F:s.ws.any bI=true\/fA k=false):IN (s.opens k):=by
 obtain ⟨C,G⟩:∃C,(if k=21 then s.exprIn else s)=C:=⟨_,rfl⟩
 have H:C.mr=s.mr/\s.ws <+: C.ws:=by
  rw [<-G];split
  ·exact ⟨(ir s).2.2.1,qk s⟩
  ·exact ⟨rfl,Ul⟩
 have J:IN (C.mark k):=by
  unfold Sy.mark
  split
  ·rename_i I
   intro m e;cases e;refine ⟨gt _,?_⟩;show (C.ws.take C.ws.length).any bI=true;rw [T4]
   rcases F with F|F
   ·exact ix H.2 F
   ·rw [F] at I;cases I.1
  ·exact nX h H.1 H.2
 unfold Sy.opens;simp only;rw [G];exact nX (s:=C.mark k) J (fT { (C.mark k) with ns:=⟨k,0,false⟩ :: (C.mark k).ns } (qL k)).2.2.1 (fZ { (C.mark k) with ns:=⟨k,0,false⟩ :: (C.mark k).ns } (qL k))
theorem FV (J:oA o):∀{s:Sy},IN s->(s.ws.any bI=true\/∀e∈o,e.k=1->fA e.n=false)->IN (aL s o):=by
 induction o with
 |nil=>intro s h _;exact h
 |cons e o ih=>
  intro s h M;rw [cI];have C:oA o:=fun x I=>J x (SZ _ I)
  have F:∀u:Sy,s.ws <+: u.ws->(u.ws.any bI=true\/∀e∈o,e.k=1->fA e.n=false):=fun u O=>M.imp (ix O) (fun H x I=>H x (SZ _ I))
  rcases J e (S4 ..) with G|G
  ·rw [cP s G];exact ih C (CG h e.n (M.imp id (fun H=>H e (S4 ..) G))) (F _ (rG s _))
  ·rw [cH s G];refine ih C (nX h ?_ (iu s)) (F _ (iu s));unfold Sy.leaves;split <;> rfl
def xA (t:Tv):Prop:=t.k=1\/t.k=2\/t.k=3
def If (t:Tv):Prop:=t.k=6/\t.t.data.toList.head?.elim false nD.contains=true
theorem OO:cW.Dyn xA:=by
 refine ⟨?_,?_,?_,?_,fun _=>rfl⟩
 ·intro n k x t h C G H;subst G H;have F:(decide (t.k=6) || lP n t.k t.t)=true:=h;rw [Th] at F
  rcases F with F|F
  ·have:=TI F
   rcases C with C|C|C <;> omega
  ·exact F
 ·intro h;cases h
 ·intro d h;refine ⟨(fun e=>by subst e;cases h),fun t C e=>?_⟩
  rcases C with C|C|C <;> omega
 ·intro n m h;exact TI h
theorem OP:cD.Dyn If:=by
 refine ⟨?_,?_,?_,?_,fun _=>rfl⟩
 ·intro n k x t h C G H;subst G H;have F:(!(decide (t.k=6) && (t.t.data.toList.head?.elim false nD.contains)) || lP n t.k t.t)=true:=h;rw [Tf C.1,C.2] at F
  simpa using F
 ·intro _ t C;have:=C.1;omega
 ·intro d h;cases h
 ·intro n m h;cases h
def gQ (t:Tv):Prop:=t.k=7\/t.k=8
def zQ (t:Tv):Prop:=t.k=6/\Ew.contains t.t.data.toList=true
structure PI (K:List It) (n:Int) (s:Sy):Prop where
 gd:gu (.live K n)
 ks:s.ks=bM K
 mr:s.mr=none
 ne:∀d∈s.ws,d≠dE
 sn:∃L,fi L s
 oW:ng cW K=true
 oD:ng cD K=true
 oN:ng cN K=true
 nH:s.ws.any bI=true\/fF cN (beg K n)=true
def LI (u:Option Tv) (K:List It) (n:Int) (s:Sy):Prop:=match u with
 |none=>s.wr=false
 |some u=>s.wr=true/\(u.k=7->s.en=true)/\(¬gQ u->(s.ws.any bU=true\/(xA u->fF cW (beg K n)=true))/\(s.ws.any bU=true\/(zQ u->fF cD (beg K n)=true)))
structure CP (u:Option Tv) (G:List Dc) (t:Tv):Prop where
 fine:∀d∈G,rt d=true/\d.k≠1
 hb:dE∈G->Pu G
 nb:gQ t->G.any CW=false
 nf:gQ t->u≠none->(t.f=0↔G.any bI=false)
 l7:∀x,u=some x->x.k=7->G.any bI=true
 lN:∀x,u=some x->¬gQ x->gQ t->G.any bU=true
 lL:∀x,u=some x->¬gQ x->¬gQ t->G.any bU=true\/(¬(xA x/\xA t)/\¬(zQ x/\If t))
theorem Hy (h:PI K n s):ng cW (beg K n)=true/\ng cD (beg K n)=true/\ng cN (beg K n)=true:=by
 unfold beg
 split
 ·have F:K=[]:=by
   rename_i G
   have H:n=0:=by simpa using G
   rcases h.gd.2 with C|C
   ·exact C.2
   ·have:=jh C;have:=h.gd.1.lv;omega
  rw [F];exact J5
 ·exact ⟨h.oW,h.oD,h.oN⟩
theorem Hz (h:n≠0):beg K n=K:=by unfold beg;rw [Eq (by simpa using h)]
theorem xz (h:PI K n s):(aL s (bR n)).ks=bM (beg K n)/\(aL s (bR n)).ws=s.ws/\(aL s (bR n)).mr=none/\(aL s (bR n)).en=s.en/\(aL s (bR n)).wr=s.wr/\(aL s (bR n)).pt=s.pt/\(∃L,fi L (aL s (bR n))):=by
 obtain ⟨M,O,Q,G,S,F,J,I⟩:=cQ h.gd;obtain ⟨c1,c2⟩:=jL n;obtain ⟨f1,f2,f3⟩:=mN c1 s;have H:=(kB c1 c2 s (l:=bM (beg K n)) (by rw [h.ks];exact G)).2;obtain ⟨L,hL⟩:=h.sn
 have C:(aL s (bR n)).ws=s.ws/\(aL s (bR n)).mr=s.mr:=by
  unfold bR
  split
  ·show (s.step ⟨1,1,aB⟩).1.ws=s.ws/\(s.step ⟨1,1,aB⟩).1.mr=s.mr
   rw [cP s rfl];exact ⟨rfl,rfl⟩
  ·exact ⟨rfl,rfl⟩
 exact ⟨H,C.1,C.2.trans h.mr,f1,f3,f2,L,vt c1 hL⟩
theorem lQ (hc:c.Ok) {t:Tv}{k:Nat}{K:List It}{n:Int}{E:List Ev}{R:Ro}(h:Ru t k K n E R):∀{L:List It}{m:Int}{F:List Ev},R=.yes L m F->ng c K=true->ng c L=true/\∃x:Fl,x.takes t=true/\(x.en c (aS L)=true->fF c L=true):=by
 induction h with
 |nil=>intro L m F h;cases h
 |ref _=>intro L m F h;cases h
 |tk hs=>
  rename_i i K n E
  intro L m F h C;cases h
  obtain ⟨x,rfl,I⟩:∃x,i=.fl x/\x.takes t=true:=by
   cases i with
   |fl x=>
    refine ⟨x,rfl,?_⟩;cases x with
    |mt m=>exfalso;simp only [It.step,Fl.step] at hs;cases G:M.row t m <;> rw [G] at hs <;> cases hs
    |_=>simp only [It.step,Fl.step] at hs;split at hs;assumption;cases hs
   |_=>cases hs
  simp only [ng,Tc,Th,UL] at C;refine ⟨C.2,x,I,fun e=>?_⟩
  rcases C.1.2 with H|H
  ·rw [show (It.fl x).en c (aS K)=x.en c (aS K) from rfl,e] at H;cases H
  ·exact H
 |go hs _ ih=>
  intro L m F h C;exact ih h (Et c hc hs C)
theorem uI {p:Pz}(C:p≠.X):∀(l:List Pz) (s:Sy),p∈l->p.d∈(s.aws l).ws
 |q :: l,s,h=>by
  rw [cj]
  rcases Tt.1 h with rfl|h
  ·have:p.d∈(s.aw p).ws:=by
    rw [sa];refine Ub _ ?_;unfold jN;rw [Eq (fun F=>C F.1)];exact UE.2 rfl
   exact (fZ _ l).subset this
  ·exact uI C l _ h
theorem By (s:Sy) (h:l.any qH=true):(s.aws l).ws.any bU=true:=by
 obtain ⟨p,F,C⟩:=Un.1 h;have G:p≠.X:=fun e=>by subst e;cases C
 refine Un.2 ⟨p.d,uI G l s F,?_⟩;cases p <;> first|(cases C;done)|rfl
theorem LY (s:Sy) (h:l.any yK=true):(s.aws l).ws.any bI=true:=by
 obtain ⟨p,C,F⟩:=Un.1 h;have G:p=.H:=TI F;subst G;exact Un.2 ⟨_,uI (by decide) l s C,rfl⟩
theorem ry {f:Dc->Bool}{a:Fx}(C:Int) (h:(s.aws a.pz).ws.any f=true):(s.ready a C).ws.any f=true:=by
 have G:((s.aws a.pz).emp C).ws.any f=true:=by
  unfold Sy.emp
  split
  ·exact h
  ·split
   ·exact h
   ·rename_i m _ _
    show ((s.aws a.pz).ws.take m++dE :: (s.aws a.pz).ws.drop m).any f=true
    rw [<-TR m (s.aws a.pz).ws,TC,Th] at h;rw [TC,Wi,Th,Th];exact h.imp id .inr
 have F:((s.aws a.pz).emp C).endl.ws.any f=true:=by
  unfold Sy.endl
  split
  ·show (dH :: ((s.aws a.pz).emp C).ws).any f=true
   rw [Wi,G,Bool.or_true]
  ·exact G
 unfold Sy.ready
 generalize ((s.aws a.pz).emp C).endl=u at F
 unfold Sy.part
 split
 ·show (u.ws++[dS]).any f=true
  rw [TC,F,VC]
 ·exact F
def NE (s:Sy):Prop:=∀d∈s.ws,d≠dE
theorem PW (p:Pz):p.d≠dE:=by cases p <;> (intro h;cases h)
theorem NE.aws {s:Sy}(h:NE s) (l:List Pz):NE (s.aws l):=by
 induction l generalizing s with
 |nil=>exact h
 |cons p l ih=>
  rw [cj];refine ih (fun d hd=>?_);rw [sa] at hd
  rcases To.1 hd with hd|hd
  ·exact h d hd
  ·unfold jN at hd
   split at hd
   ·cases hd
   ·rw [UE] at hd;rw [hd];exact PW p
theorem NE.exprIn (h:NE s):NE s.exprIn:=by
 unfold Sy.exprIn
 split
 ·exact h
 ·rename_i n r e
  show ∀d∈(if n.k=19 then s.aws [.S,.I 3] else if n.k=31/\n.s=false then s.aws [.B0] else s).ws,d≠dE
  split
  ·exact h.aws _
  ·split
   ·exact h.aws _
   ·exact h
theorem NE.opens (h:NE s) (k:Int):NE (s.opens k):=by
 unfold Sy.opens;simp only;refine NE.aws (s:={ ((if k=21 then s.exprIn else s).mark k) with ns:=⟨k,0,false⟩ :: ((if k=21 then s.exprIn else s).mark k).ns }) ?_ _;intro d hd;have C:d∈((if k=21 then s.exprIn else s).mark k).ws:=hd;rw [tI] at C
 split at C
 ·exact h.exprIn d C
 ·exact h d C
theorem NE.leaves (h:NE s):NE s.leaves:=by
 unfold Sy.leaves
 split
 ·exact h
 ·intro d hd;have C:d∈s.ws++List.replicate _ dX++(if _ then [dH] else []):=hd
  rcases To.1 C with hd|hd
  ·rcases To.1 hd with hd|hd
   ·exact h d hd
   ·rw [List.eq_of_mem_replicate hd];intro e;cases e
  ·split at hd
   ·rw [UE] at hd;rw [hd];intro e;cases e
   ·cases hd
theorem NE.fold (F:oA o):∀{s:Sy},NE s->NE (aL s o):=by
 induction o with
 |nil=>intro s h;exact h
 |cons e o ih=>
  intro s h;rw [cI];refine ih (fun x G=>F x (SZ _ G)) ?_
  rcases F e (S4 ..) with C|C
  ·rw [cP s C];exact h.opens e.n
  ·rw [cH s C];exact h.leaves
theorem Ch (hn:NE s) (hm:IN s) (a:Fx) (f:Int):(dE∈(s.ready a f).ws->Pu (s.ready a f).ws)/\∀G,(s.wr=true->(2<=G↔dE∈(s.ready a f).ws))->s.ready a G=s.ready a f:=by
 obtain ⟨v,O⟩:∃v,s.aws a.pz=v:=⟨_,rfl⟩;have J:NE v:=by rw [<-O];exact hn.aws _
 have Y:IN v:=by rw [<-O];exact nX hm (fT s a.pz).2.2.1 (fZ s _)
 have ac:v.wr=s.wr:=by
  rw [<-O]
  have U:∀(l:List Pz) (s:Sy),(s.aws l).wr=s.wr:=by
   intro l
   induction l with
   |nil=>intro s;rfl
   |cons p l ih=>intro s;rw [cj];exact ih (s.aw p)
  exact U _ _
 have S:∀u:Sy,∃x y:List Dc,u.endl.part.ws=x++(u.ws++y)/\dE∉x/\dE∉y:=by
  intro u
  have h1:∃x,u.endl.ws=x++u.ws/\dE∉x:=by
   unfold Sy.endl
   split
   ·exact ⟨[dH],rfl,by intro h;simp at h;cases h⟩
   ·exact ⟨[],rfl,by simp⟩
  obtain ⟨x,F,M⟩:=h1;unfold Sy.part
  split
  ·exact ⟨x,[dS],by show u.endl.ws++[dS]=_;rw [F,S5],M,by intro h;simp at h;cases h⟩
  ·exact ⟨x,[],by rw [F,TG],M,by simp⟩
 unfold Sy.ready;rw [O]
 by_cases hc:∃m,v.mr=some m/\v.wr=true/\(v.ws.take m).any bj=false
 ·obtain ⟨m,I,aa,ab⟩:=hc
  have C:∀f,v.emp f=if f<2 then v else { v with ws:=v.ws.take m++dE :: v.ws.drop m }:=by
   intro f;unfold Sy.emp;rw [I];show (if f<2\/v.wr=false\/(v.ws.take m).any bj=true then v else _)=_
   by_cases H:f<2
   ·rw [IO (.inl H),IO H]
   ·grind
  have Z:∀f,dE∈(v.emp f).endl.part.ws↔2<=f:=by
   intro f;obtain ⟨x,y,e,F,Q⟩:=S (v.emp f);rw [e,C f]
   by_cases H:f<2
   ·rw [IO H];constructor
    ·intro h
     rcases To.1 h with h|h
     ·exact absurd h F
     ·rcases To.1 h with h|h
      ·exact absurd rfl (J dE h)
      ·exact absurd h Q
    ·intro h;omega
   ·grind
  refine ⟨fun h=>?_,fun G h=>?_⟩
  ·have H:=(Z f).1 h;obtain ⟨x,y,e,F,Q⟩:=S (v.emp f);rw [e,C f,Eq (by omega)];refine ⟨x++v.ws.take m,v.ws.drop m++y,by simp,?_⟩;rw [TC,(Y m I).2,Bool.or_true]
  ·grind
 ·have C:∀f,v.emp f=v:=by
   intro f;unfold Sy.emp
   split
   ·rfl
   ·grind
  refine ⟨fun h=>?_,fun G _=>by rw [C G,C f]⟩
  exfalso
  obtain ⟨x,y,e,F,Q⟩:=S (v.emp f);rw [e,C f] at h
  rcases To.1 h with h|h
  ·exact F h
  ·rcases To.1 h with h|h
   ·exact J dE h rfl
   ·exact Q h
theorem x9 {L:List Dc}(h:fi L s):∀d∈s.ws,rt d=true:=by
 have:∀(l:List Dc) (o x:Int),js o l=some x->∀d∈l,rt d=true:=by
  intro l
  induction l with
  |nil=>intro o x _ d hd;cases hd
  |cons a l ih=>
   intro o x h d hd;simp only [js] at h
   split at h
   ·rename_i C
    rcases Tt.1 hd with rfl|hd
    ·exact C.1
    ·exact ih _ _ h d hd
   ·cases h
 exact fun d hd=>this _ _ _ h.r d (Ub _ hd)
theorem oR {x:Fl}(ht:x.takes t=true) {n:Int}(I:c.tE n t.k t.t=true) (C:t.k=1\/t.k=3\/t.k=4\/t.k=5->c.nE=true):x.en c n=true:=by
 cases x with
 |wd k ts=>
  simp only [Fl.takes,Tc,TY] at ht;obtain ⟨y,F,G⟩:=Un.1 ht.2;have H:t.t=y:=TI G;exact Un.2 ⟨y,F,by rw [<-ht.1,<-H];exact I⟩
 |nm=>simp only [Fl.takes,TY] at ht;exact C (.inl ht)
 |cs=>
  simp only [Fl.takes,Th,TY] at ht;refine C ?_
  rcases ht with (ht|ht)|ht
  ·exact .inr (.inl ht)
  ·exact .inr (.inr (.inl ht))
  ·exact .inr (.inr (.inr ht))
 |mt m=>cases ht
theorem CQ (hP:PI K n s) (hL:LI u K n s) (hc:¬gQ t) {kk:Nat}{L:List It}{m:Int}{E:List Ev}(O:Ru t kk (beg K n) (ii n) (bR n) (.yes L m E)) (hg:gu (.live L m)) (ay:fu t.t=true) :
  ∃G,((aL s E).leaf t).2=G++[dT t.t]/\CP u G t/\PI L m ((aL s E).leaf t).1/\LI (some t) L m ((aL s E).leaf t).1/\∀t':Tv,t'.k=t.k->t'.t=t.t->(u≠none->(2<=t'.f↔dE∈G))->(aL s E).leaf t'=(aL s E).leaf t:=by
 obtain ⟨b1,b2,b3,b4,b5,am,bb,ba⟩:=cQ hP.gd;obtain ⟨k0,k1,k2,k3,k4,k5,L0,hS0⟩:=xz hP;obtain ⟨c1,c2⟩:=jL n;obtain ⟨oW,oD,oN⟩:=Hy hP;obtain ⟨d1,d2,d3,o,d4,d5,d6,d7⟩:=eM O rfl b1 b2 b3;have hB:oA o:=fun e he=>(d6 e he).2.1
 have an:∀e∈o,e.k=1->1<=e.n/\e.n<=32:=fun e he=>pb O rfl c2 e (by rw [d4];exact Ub _ he)
 obtain ⟨s0,al⟩:∃s0,aL s (bR n)=s0:=⟨_,rfl⟩;rw [al] at k0 k1 k2 k3 k4 k5 hS0;have ag:aL s E=aL s0 o:=by rw [d4,rp,al]
 rw [ag];obtain ⟨f1,f2,f3⟩:=mN hB s0;have M:=(kB hB an s0 (l:=bM L) (by rw [k0];exact d5)).2;have ac:=vt hB hS0;have ai:NE (aL s0 o):=NE.fold hB (show NE s0 by unfold NE;rw [k1];exact hP.ne)
 have ah:IN (aL s0 o):=by
  refine FV hB (fun m hm=>by rw [k2] at hm;cases hm) ?_
  rcases hP.nH with h|h
  ·exact .inl (by rw [k1];exact h)
  ·obtain ⟨o2,e1,e2⟩:=Sk O rfl b1 h;rw [d4] at e1;have:=Ug e1;subst this;exact .inr e2
 have dW:∀(c:Cl) (bad:Tv->Prop),c.Dyn bad->bad t->fF c (beg K n)=true->(aL s0 o).ws.any bU=true\/lP (aS L) t.k t.t=true:=by
  intro c bad hd hb H;obtain ⟨o2,e1,_,_,e4⟩:=dyn hd hb O rfl b1 b2 b3 H s0 k0;rw [d4] at e1;have:=Ug e1;subst this;exact e4
 have ab:=ro hB s0;obtain ⟨C,az⟩:∃C,aL s0 o=C:=⟨_,rfl⟩;rw [az] at f1 f2 f3 M ac ai ah dW ab ⊢;have aa:=jh (pd O rfl am)
 obtain ⟨F,r0,af⟩:∃F r0,C.ns=F :: r0:=by
  cases hc:C.ns with
  |nil=>unfold Sy.ks at M;rw [hc] at M;rw [<-M] at aa;exact absurd aa (by decide)
  |cons a b=>exact ⟨a,b,rfl⟩
 have ak:C.ns≠[]:=by rw [af];exact WY _ _
 have ae:F.k=aS L:=by rw [rH,<-M];unfold Sy.ks;rw [af];rfl
 have I:∀t:Tv,C.leaf t=((C.ready (aH F t).a t.f).after (aH F t).b,(C.ready (aH F t).a t.f).ws++[dT t.t]):=by
  intro t;unfold Sy.leaf;rw [af]
 obtain ⟨ar,_,av⟩:=ac.leaf ak t ay;obtain ⟨r1,r2⟩:=Ch ai ah (aH F t).a t.f;have aj:fi L0 (C.ready (aH F t).a t.f):=((((ac.aws ak _ (tV _)).emp t.f).endl).part);obtain ⟨G,hG⟩:∃G,(C.ready (aH F t).a t.f).ws=G:=⟨_,rfl⟩;have J:∀f:Dc->Bool,C.ws.any f=true->G.any f=true:=fun f h=>by rw [<-hG];exact ry t.f (ix (fZ _ _) h)
 have U:lP (aS L) t.k t.t=true->G.any bU=true:=fun h=>by
  rw [<-hG];refine ry t.f (By _ (JH ?_));rw [ae];exact h
 have bd:u≠none->C.wr=true:=by
  intro hu;rw [f3,k4];cases u with
  |none=>exact absurd rfl hu
  |some x=>exact hL.1
 have ap:C.wr=true->u≠none:=by
  intro h1 h2;subst h2;rw [f3,k4,show s.wr=false from hL] at h1;cases h1
 have aw:m≠0:=by have:=hg.1.lv;omega
 have S:beg L m=L:=Hz aw;refine ⟨G,by rw [I,hG],?_,?_,?_,?_⟩
 ·refine ⟨?_,fun h=>by rw [<-hG] at h ⊢;exact r1 h,fun h=>absurd h hc,fun h=>absurd h hc,?_,fun _ _ _ h=>absurd h hc,?_⟩
  ·rw [<-hG];exact fun d hd=>⟨x9 aj d hd,aj.n d hd⟩
  ·intro x Y h7;subst Y;rw [<-hG];exact E4 (by rw [f1,k3];exact hL.2.1 h7) _ _
  ·intro x Y hnx bc;subst Y;obtain ⟨l1,l2⟩:=hL.2.2 hnx
   by_cases ad:s.ws.any bU=true
   ·exact .inl (J _ (ix ab (by rw [k1];exact ad)))
   ·by_cases hw:xA x/\xA t
    ·have H:=(l1.resolve_left ad) hw.1
     rcases dW cW xA OO hw.2 H with h|h
     ·exact .inl (J _ h)
     ·exact .inl (U h)
    ·by_cases hd:zQ x/\If t
     ·have H:=(l2.resolve_left ad) hd.1
      rcases dW cD If OP hd.2 H with h|h
      ·exact .inl (J _ h)
      ·exact .inl (U h)
     ·exact .inr ⟨hw,hd⟩
 ·have Z:(C.leaf t).1.ws=(Sy.aws ⟨(C.ready (aH F t).a t.f).ns,[],none,true,false,false⟩ (aH F t).b.pz).ws:=by rw [I];rfl
  refine ⟨hg,by rw [av];exact M,?_,?_,⟨_,ar⟩,(lQ MJ O rfl oW).1,(lQ ML O rfl oD).1,(lQ MK O rfl oN).1,?_⟩
  ·rw [I];exact (fT ⟨(C.ready (aH F t).a t.f).ns,[],none,true,false,false⟩ (aH F t).b.pz).2.2.1
  ·rw [Z];exact NE.aws (s:=⟨(C.ready (aH F t).a t.f).ns,[],none,true,false,false⟩) (fun d hd=>(nomatch (show d∈([]:List Dc) from hd))) _
  ·rw [S]
   by_cases hh:((aH F t).b.pz).any yK=true
   ·exact .inl (by rw [Z];exact LY _ hh)
   ·obtain ⟨_,x,Y,Q⟩:=lQ MK O rfl oN;refine .inr (Q (oR Y ?_ (fun _=>rfl)));have:=KR (n:=F) (t:=t) (by simpa using hh);rw [ae] at this;show (!KS (aS L) t.k t.t)=true;rw [this];rfl
 ·have Z:(C.leaf t).1.ws=(Sy.aws ⟨(C.ready (aH F t).a t.f).ns,[],none,true,false,false⟩ (aH F t).b.pz).ws:=by rw [I];rfl
  have aq:(C.leaf t).1.wr=true:=by
   have au:∀(l:List Pz) (s:Sy),(s.aws l).wr=s.wr:=by
    intro l
    induction l with
    |nil=>intro s;rfl
    |cons p l ih=>intro s;rw [cj];exact ih (s.aw p)
   rw [I];exact au _ _
  have sb:(C.leaf t).1.ws.any bU=false->ye (aS L) t.k t.t=false:=by
   intro h;rw [<-ae];refine JG ?_;cases hq:((aH F t).b.pz).any qH with
   |false=>rfl
   |true=>rw [Z,By _ hq] at h;cases h
  refine ⟨aq,fun h=>absurd (.inl h) hc,fun _=>⟨?_,?_⟩⟩
  ·cases hq:(C.leaf t).1.ws.any bU with
   |true=>exact .inl rfl
   |false=>
    refine .inr (fun hb=>?_);rw [S];obtain ⟨_,x,Y,Q⟩:=lQ MJ O rfl oW;refine Q (oR Y ?_ (fun _=>rfl));show (!decide (t.k=6) && !ye (aS L) t.k t.t)=true;rw [sb hq,Tg (by rcases hb with h|h|h <;> omega)];rfl
  ·cases hq:(C.leaf t).1.ws.any bU with
   |true=>exact .inl rfl
   |false=>
    refine .inr (fun hb=>?_);rw [S];obtain ⟨_,x,Y,Q⟩:=lQ ML O rfl oD;refine Q (oR Y ?_ (fun h=>?_))
    ·show (decide (t.k=6) && (Ew.contains t.t.data.toList && !ye (aS L) t.k t.t))=true
     rw [sb hq,Tf hb.1,hb.2];rfl
    ·have:=hb.1;omega
 ·intro t' e1 e2 hf;have ax:aH F t'=aH F t:=by unfold aH;rw [e1,e2]
  rw [I t',I t,ax,e2,r2 t'.f (fun h=>by rw [hG];exact hf (ap h))]
theorem LU (n:Int):ii n≠0:=by
 unfold ii
 split
 ·decide
 ·rename_i h;simpa using h
theorem GT {l:List Dc}(h:l.any bI=true):(l.dropWhile bj).any bI=true:=by
 induction l with
 |nil=>cases h
 |cons d l ih=>
  rw [Wt]
  split
  ·rename_i C
   have hd:bI d=false:=by
    unfold bj at C;unfold bI;have:=TI C;exact Tg (by omega)
   rw [Wi,hd,WQ] at h;exact ih h
  ·exact h
theorem CD (hP:PI K n s) (hL:LI u K n s) (hc:gQ t) (hg:gu (.live (beg K n) (ii n))) (ag:fu t.t=true) (aj:0<=t.f) (h7:∀x,u=some x->x.k=7->1<=t.f) :
  ∃G,((aL s (bR n)).note t).2=G++[dT t.t]/\CP u G t/\PI (beg K n) (ii n) ((aL s (bR n)).note t).1/\LI (some t) (beg K n) (ii n) ((aL s (bR n)).note t).1/\∀t':Tv,t'.k=t.k->t'.t=t.t->0<=t'.f->(u≠none->(2<=t'.f↔dE∈G)/\(t'.f=0↔G.any bI=false))->(aL s (bR n)).note t'=(aL s (bR n)).note t:=by
 obtain ⟨k0,k1,k2,k3,k4,k5,L0,Q⟩:=xz hP;obtain ⟨oW,oD,oN⟩:=Hy hP;obtain ⟨s0,hs0⟩:∃s0,aL s (bR n)=s0:=⟨_,rfl⟩;rw [hs0] at k0 k1 k2 k3 k4 k5 Q ⊢;obtain ⟨hSn,_,hkn⟩:=Q.note t ag;obtain ⟨bg,hbg⟩:∃bg,s0.ws.takeWhile bj=bg:=⟨_,rfl⟩;have ae:∀d∈bg,bj d=true:=by rw [<-hbg];exact fun d hd=>Vu.1 List.all_takeWhile d hd
 have M:∀d∈bg,d∈s0.ws:=by rw [<-hbg];exact fun d hd=>(List.takeWhile_prefix bj).subset hd
 have ab:∀d∈bg,rt d=true/\d.k≠1:=fun d hd=>⟨x9 Q d (M d hd),Q.n d (M d hd)⟩
 have U:∀d∈bg,d.k=6:=fun d hd=>TI (ae d hd)
 have af:bg.any bI=false:=by
  rw [VO];intro d hd;have:=U d hd;unfold bI;simp;omega
 have aa:bg.any CW=false:=by
  rw [VO];intro d hd;have:=U d hd;unfold CW;simp;omega
 have Z:dE∉bg:=fun h=>by have:=U _ h;exact absurd this (by decide)
 have ac:u≠none↔s0.wr=true:=by
  rw [k4];cases u with
  |none=>rw [show s.wr=false from hL];simp
  |some x=>rw [hL.1];simp
 have C:∀t:Tv,s0.note t=if t.f=0/\s0.wr=true then (⟨s0.ns,s0.ws.dropWhile bj,none,true,s0.en || decide (t.k=7),s0.pt || decide (t.k=8)⟩,bg++[dS,dT t.t]) else (⟨s0.ns,s0.ws.dropWhile bj,none,true,true,s0.pt⟩,bg++dH :: ((if 2<=t.f/\s0.wr=true/\bg=[] then [dE] else [])++[dT t.t])):=by
  intro t;unfold Sy.note;rw [hbg]
 obtain ⟨G,hG,I⟩:∃G,(s0.note t).2=G++[dT t.t]/\G=(if t.f=0/\s0.wr=true then bg++[dS] else bg++dH :: (if 2<=t.f/\s0.wr=true/\bg=[] then [dE] else [])):=by
  refine ⟨_,?_,rfl⟩;rw [C]
  by_cases h:t.f=0/\s0.wr=true
  ·rw [IO h,IO h];simp
  ·rw [Eq h,Eq h];simp
 have S:G.any bI=!decide (t.f=0/\s0.wr=true):=by
  rw [I]
  by_cases h:t.f=0/\s0.wr=true
  ·rw [IO h,Tf h,TC,af];rfl
  ·rw [Eq h,Tg h,TC,Wi];simp [bI,dH]
 have Y:dE∈G↔(¬(t.f=0/\s0.wr=true)/\2<=t.f/\s0.wr=true/\bg=[]):=by
  rw [I]
  by_cases h:t.f=0/\s0.wr=true
  ·rw [IO h];constructor
   ·intro F
    rcases To.1 F with F|F
    ·exact absurd F Z
    ·simp at F;cases F
   ·intro F;exact absurd h F.1
  ·rw [Eq h]
   by_cases J:2<=t.f/\s0.wr=true/\bg=[]
   ·rw [IO J];exact ⟨fun _=>⟨h,J⟩,fun _=>by simp⟩
   ·rw [Eq J];constructor
    ·intro F
     rcases To.1 F with F|F
     ·exact absurd F Z
     ·simp at F;cases F
    ·intro F;exact absurd F.2 J
 refine ⟨G,hG,⟨?_,?_,?_,?_,?_,?_,fun _ _ _ h=>absurd hc h⟩,?_,?_,?_⟩
 ·intro d hd;rw [I] at hd
  split at hd
  ·rcases To.1 hd with hd|hd
   ·exact ab d hd
   ·simp at hd;subst hd;exact ⟨rfl,by decide⟩
  ·rcases To.1 hd with hd|hd
   ·exact ab d hd
   ·rcases Tt.1 hd with rfl|hd
    ·exact ⟨rfl,by decide⟩
    ·split at hd
     ·simp at hd;subst hd;exact ⟨rfl,by decide⟩
     ·cases hd
 ·intro h;obtain ⟨h1,J⟩:=Y.1 h;rw [I,Eq h1,IO J,J.2.2];exact ⟨[dH],[],rfl,rfl⟩
 ·intro _;rw [I]
  split
  ·rw [TC,aa];rfl
  ·rw [TC,aa]
   split <;> rfl
 ·intro _ hu;have O:=ac.1 hu;rw [S];simp [O]
 ·intro x hx ah;have:=h7 x hx ah;rw [S,Tg (by rintro ⟨h1,_⟩;omega)];rfl
 ·intro x hx _ _;rw [I]
  split
  ·rw [TC];simp [bU,dS]
  ·rw [TC,Wi];simp [bU,dH]
 ·have ad:(s0.note t).1.ws=s0.ws.dropWhile bj:=by rw [C];split <;> rfl
  refine ⟨hg,by rw [hkn];exact k0,by rw [C];split <;> rfl,?_,⟨_,hSn⟩,oW,oD,oN,?_⟩
  ·rw [ad];intro d hd;exact hP.ne d (by rw [<-k1];exact (List.dropWhile_suffix bj).subset hd)
  ·rw [ad,Hz (LU n),k1];exact hP.nH.imp GT id
 ·refine ⟨by rw [C];split <;> rfl,fun h=>?_,fun h=>absurd hc h⟩;rw [C]
  split
  ·show (s0.en || decide (t.k=7))=true;rw [Tf h,Bool.or_true]
  ·rfl
 ·intro t' e1 e2 ai hx;rw [C t',C t,e1,e2]
  by_cases O:s0.wr=true
  ·obtain ⟨x1,x2⟩:=hx (ac.2 O);rw [S] at x2;rw [Y] at x1
   by_cases h:t.f=0
   ·rw [IO ⟨x2.2 (by simp [h,O]),O⟩,IO ⟨h,O⟩]
   ·have hn:¬t'.f=0:=fun e=>by have:=x2.1 e;simp [h] at this
    rw [Eq (show ¬(t'.f=0/\s0.wr=true) from fun H=>hn H.1),Eq (show ¬(t.f=0/\s0.wr=true) from fun H=>h H.1)]
    have:(2<=t'.f/\s0.wr=true/\bg=[])↔(2<=t.f/\s0.wr=true/\bg=[]):=by
     constructor
     ·rintro ⟨a1,a2,a3⟩;exact (x1.1 a1).2
     ·rintro ⟨a1,a2,a3⟩;exact ⟨x1.2 ⟨fun H=>h H.1,a1,a2,a3⟩,a2,a3⟩
    by_cases J:2<=t.f/\s0.wr=true/\bg=[]
    ·rw [IO (this.2 J),IO J]
    ·rw [Eq (fun H=>J (this.1 H)),Eq J]
  ·rw [Eq (show ¬(t'.f=0/\s0.wr=true) from fun H=>O H.2),Eq (show ¬(t.f=0/\s0.wr=true) from fun H=>O H.2),Eq (show ¬(2<=t'.f/\s0.wr=true/\bg=[]) from fun H=>O H.2.1),Eq (show ¬(2<=t.f/\s0.wr=true/\bg=[]) from fun H=>O H.2.1)]
theorem sA (C:t'.k=t.k) (F:t'.t=t.t) (i:It):It.step t' i=It.step t i:=by
 obtain ⟨k,x,a,l,c,f⟩:=t;obtain ⟨k',x',a',l',c',f'⟩:=t';simp only at C F;subst C F;cases i with
 |fl y=>
  cases y with
  |mt m=>cases m <;> rfl
  |_=>rfl
 |lv n=>rfl
 |once p=>
  cases p with
  |fn d=>cases d <;> rfl
  |row r=>cases r with
   |nil=>rfl
   |cons y r=>cases y <;> rfl
  |ex m=>rfl
 |again p=>
  cases p with
  |fn d=>cases d <;> rfl
  |row r=>cases r with
   |nil=>rfl
   |cons y r=>cases y <;> rfl
  |ex m=>rfl
 |all r=>rfl
theorem PO (C:t'.k=t.k) (F:t'.t=t.t) {k:Nat}{K:List It}{n:Int}{E:List Ev}{R:Ro}(h:Ru t k K n E R):Ru t' k K n E R:=by
 induction h with
 |nil=>exact .nil
 |ref hs=>exact .ref (by rw [sA C F];exact hs)
 |tk hs=>exact .tk (by rw [sA C F];exact hs)
 |go hs _ ih=>exact .go (by rw [sA C F];exact hs) ih
def Sj (t:Tv):Tv:=⟨t.k,t.t,0,0,0,0⟩
def er (e:Ev):Ev:=⟨e.k,e.n,Sj e.d⟩
def eO:List (List Dc)->List Tv->List Dc
 |G :: gs,t :: l=>G++(dT t.t :: eO gs l)
 |_,_=>[]
inductive L8:Option Tv->List (List Dc)->List Tv->Prop
 |nil {u:Option Tv}:L8 u [] []
 |cons {u:Option Tv} {G:List Dc} {t:Tv} {gs:List (List Dc)} {l:List Tv}:CP u G t->L8 (some t) gs l->L8 u (G :: gs) (t :: l)
inductive Sm:Bool->List (List Dc)->List Tv->List Tv->Prop
 |nil {b:Bool}:Sm b [] [] []
 |cons {b:Bool} {G:List Dc} {t t':Tv} {gs:List (List Dc)} {l l':List Tv}:t'.k=t.k->t'.t=t.t->0<=t'.f->(b=true->(2<=t'.f↔dE∈G)/\(gQ t->(t'.f=0↔G.any bI=false)))->Sm true gs l l'->Sm b (G :: gs) (t :: l) (t' :: l')
structure Pb (ge:List Dc):Prop where
 fine:∀d∈ge,rt d=true/\d.k≠1/\d≠dE
 hd:ge.any bI=true
theorem gX {e:Ev}{r:List Ev}:du s (e :: r)=match dO s e with|none=>none|some (s',l)=>(du s' r).map (l++·):=rfl
theorem vy {C:Sy}{l:List Dc}:∀{a:List Ev},xJ s a=some (C,l)->∀b,du s (a++b)=(du C b).map (l++·):=by
 intro a
 induction a generalizing s l with
 |nil=>
  intro h b;cases h;show du C b=_;cases du C b <;> simp
 |cons e a ih=>
  intro h b;simp only [xJ] at h;show du s (e :: (a++b))=_;rw [gX];cases F:dO s e with
  |none=>rw [F] at h;cases h
  |some x=>
   obtain ⟨H,G⟩:=x;rw [F] at h;simp only at h ⊢;obtain ⟨⟨y1,y2⟩,hy,e2⟩:=Ts.1 h;simp only [Prod.mk.injEq] at e2;obtain ⟨rfl,rfl⟩:=e2;rw [ih hy];cases du y1 b <;> simp
theorem zR {s C s2:Sy}{l:List Dc}{o:List Ev}{e:Ev}(h:xJ s o=some (C,[])) (F:dO C e=some (s2,l)):xJ s (o++[e])=some (s2,l):=by
 rw [Jy s o [e] h];simp [xJ,F]
theorem sM:∀(l:List Tv) (K:List It) (n:Int) (s:Sy) (u:Option Tv) (E:List Ev) (a:Nat),gS (.live K n) l E 0 a->PI K n s->LI u K n s->QJ l->(∀x t,u=some x->x.k=7->l[0]?=some t->1<=t.f) ->
  ∃gs ge,gs.length=l.length/\du s E=some (eO gs l++ge)/\L8 u gs l/\Pb ge/\∀l',Sm u.isSome gs l l'->∃E',gS (.live K n) l' E' 0 a/\du s E'=some (eO gs l++ge)/\E'.map er=E.map er
 |[],K,n,s,u,E,a,hA,hP,hL,hT,h7=>by
  obtain ⟨J,ha⟩:=hA.end;cases J with
  |all hK=>
   have hb:Ph K:=by
    rcases hP.gd.2 with ⟨_,h2⟩|h2
    ·rw [h2] at hK;cases hK
    ·exact h2
   obtain ⟨X,hX⟩:=hb
   have am:X=[]:=by
    rw [hX,Or] at hK;exact Tl (by have:X.length+1=1:=hK;omega)
   have M:s.ks=[1]:=by rw [hP.ks,hX,am];rfl
   obtain ⟨nd,aj,ai⟩:∃nd,s.ns=[nd]/\nd.k=1:=by
    unfold Sy.ks at M;cases J:s.ns with
    |nil=>rw [J] at M;cases M
    |cons nd ns=>
     rw [J,T1] at M;injection M with e1 e2
     rw [List.map_eq_nil_iff] at e2;exact ⟨nd,by rw [e2],e1⟩
   have hm:s.may ⟨3,1,aB⟩=true:=by
    unfold Sy.may;rw [Eq (by decide),IO rfl,aj];exact Tf ai
   obtain ⟨L0,hS⟩:=hP.sn;have ae:=hS.leaves.1;have ah:s.leaves={ s with ns:=[],ws:=s.ws++List.replicate nd.b dX++[dH] }:=by unfold Sy.leaves;rw [aj];simp [ai]
   have ag:s.leaves.ws.any bI=true:=by rw [ah];show (s.ws++List.replicate nd.b dX++[dH]).any bI=true;rw [TC];simp [bI,dH]
   have ap:s.leaves.endl=s.leaves:=by unfold Sy.endl;rw [Eq (fun h=>by rw [ag] at h;cases h.2)]
   have an:iy s.leaves=some s.leaves.ws:=by unfold iy;rw [IO (by rw [ah]),ap]
   have ak:du s [⟨3,1,aB⟩]=some s.leaves.ws:=by
    rw [gX];have:dO s ⟨3,1,aB⟩=some (s.leaves,[]):=by unfold dO;rw [IO hm,cH s rfl]
    rw [this];show (du s.leaves []).map ([]++·)=_;show (iy s.leaves).map ([]++·)=_;rw [an];rfl
   have aq:NE s.leaves:=NE.leaves hP.ne;refine ⟨[],s.leaves.ws,rfl,ak,.nil,⟨fun d hd=>⟨x9 ae d hd,ae.n d hd,aq d hd⟩,ag⟩,fun l' F=>?_⟩;cases F;exact ⟨_,hA,ak,rfl⟩
 |t :: l,K,n,s,u,E,a,hA,hP,hL,hT,h7=>by
  rcases hA.inv with ⟨_,_,_,J,_⟩|⟨ev,st',E2,k2,hp,ad,rfl,rfl⟩
  ·exact absurd rfl J
  ·have af:=(dU hP.gd hp).1;obtain ⟨kk,au,_⟩:=hT.tx t (S4 ..);have aa:=PG au;obtain ⟨c1,c2⟩:=jL n;obtain ⟨b1,b2,b3,b4,b5,hbot,hbn,hbe⟩:=cQ hP.gd;cases hp with
   |note J=>
    have O:gQ t:=by simpa [gQ] using J
    obtain ⟨G,g1,g2,g3,g4,g5⟩:=CD hP hL O af aa (hT.fd t (S4 ..)) (fun x hx Q=>h7 x t hx Q rfl);have Z:xJ s (bR n)=some (aL s (bR n),[]):=(kB c1 c2 s (by rw [hP.ks];exact b4)).1;have U:=(kB c1 c2 s (l:=bM (beg K n)) (by rw [hP.ks];exact b4)).2
    have Y:∀t':Tv,t'.k=t.k->t'.t=t.t->dO (aL s (bR n)) ⟨4,0,t'⟩=some ((aL s (bR n)).note t'):=by
     intro t' e1 e2
     have hm:(aL s (bR n)).may ⟨4,0,t'⟩=true:=by
      unfold Sy.may;rw [Eq (show ¬(4:Int)=1 by decide),Eq (show ¬(4:Int)=3 by decide),Eq (show ¬(4:Int)=2 by decide),IO rfl];show ((!(aL s (bR n)).ns.isEmpty) && (fu t'.t && decide (t'.k=7\/t'.k=8)))=true;rw [e1,e2,aa,Tf (show t.k=7\/t.k=8 from O)]
      have:(aL s (bR n)).ns≠[]:=by
       intro h0;have F:=jh hbot;rw [<-U] at F;unfold Sy.ks at F;rw [h0] at F;exact absurd F (by decide)
      cases ab:(aL s (bR n)).ns with
      |nil=>exact absurd ab this
      |cons _ _=>rfl
     unfold dO;rw [IO hm];rfl
    obtain ⟨gs,ge,r1,r2,r3,r4,r5⟩:=sM l (beg K n) (ii n) _ (some t) E2 k2 ad g3 g4 hT.tail (fun x y hx Q hy=>by cases hx;exact hT.ln 0 t y rfl hy Q)
    have S:∀t':Tv,t'.k=t.k->t'.t=t.t->(aL s (bR n)).note t'=(aL s (bR n)).note t->∀I,du s (bR n++[⟨4,0,t'⟩]++I)=(du ((aL s (bR n)).note t).1 I).map ((G++[dT t.t])++·):=by
     intro t' e1 e2 e3 I;have h1:=Y t' e1 e2;rw [e3] at h1;have h2:=vy (zR (s2:=((aL s (bR n)).note t).1) (l:=((aL s (bR n)).note t).2) Z h1) I;rw [g1] at h2;exact h2
    refine ⟨G :: gs,ge,by simp [r1],?_,.cons g2 r3,r4,?_⟩
    ·rw [S t rfl rfl rfl,r2];simp [eO]
    ·intro l' F;cases F with
     |cons x1 x2 x3 x4 x5=>
      rename_i t' ac
      obtain ⟨I,y1,y2,y3⟩:=r5 ac x5;have hu:u≠none->u.isSome=true:=fun hu=>by cases u with|none=>exact absurd rfl hu|some _=>rfl
      have H:=g5 t' x1 x2 x3 (fun h=>⟨(x4 (hu h)).1,(x4 (hu h)).2 O⟩);refine ⟨bR n++[⟨4,0,t'⟩]++I,.on (.note (by rw [x1];exact J)) y1,?_,by simp [er,Sj,x1,x2,y3]⟩;rw [S t' x1 x2 H,y2];simp [eO]
   |yes J hR hkk hm=>
    rename_i L m C av
    have O:¬gQ t:=by
     intro h;have h':(t.k == 7 || t.k == 8)=true:=by simpa [gQ] using h
     rw [J] at h';cases h'
    obtain ⟨G,g1,g2,g3,g4,g5⟩:=CQ hP hL O hR af aa;obtain ⟨d1,d2,d3,o,d4,d5,d6,d7⟩:=eM hR rfl b1 b2 b3
    have hB:oA C:=by
     rw [d4];intro e he
     rcases To.1 he with he|he
     ·exact c1 e he
     ·exact (d6 e he).2.1
    have al:=pb hR rfl c2;have ar:cJ s.ks C=some (bM L):=by rw [d4,hP.ks];exact (dV _ _ _ _ b4).trans d5
    obtain ⟨Z,U⟩:=kB hB al s ar
    have Y:∀t':Tv,t'.k=t.k->t'.t=t.t->dO (aL s C) ⟨2,0,t'⟩=some ((aL s C).leaf t'):=by
     intro t' e1 e2
     have hm:(aL s C).may ⟨2,0,t'⟩=true:=by
      unfold Sy.may;rw [Eq (show ¬(2:Int)=1 by decide),Eq (show ¬(2:Int)=3 by decide),IO rfl];show ((!(aL s C).ns.isEmpty) && fu t'.t)=true;rw [e2,aa]
      have:(aL s C).ns≠[]:=by
       intro h0;have F:=jh (pd hR rfl hbot);rw [<-U] at F;unfold Sy.ks at F;rw [h0] at F;exact absurd F (by decide)
      cases ab:(aL s C).ns with
      |nil=>exact absurd ab this
      |cons _ _=>rfl
     unfold dO;rw [IO hm];rfl
    obtain ⟨gs,ge,r1,r2,r3,r4,r5⟩:=sM l L m _ (some t) E2 k2 ad g3 g4 hT.tail (fun x y hx Q hy=>by cases hx;exact hT.ln 0 t y rfl hy Q)
    have S:∀t':Tv,t'.k=t.k->t'.t=t.t->(aL s C).leaf t'=(aL s C).leaf t->∀I,du s (C++[⟨2,0,t'⟩]++I)=(du ((aL s C).leaf t).1 I).map ((G++[dT t.t])++·):=by
     intro t' e1 e2 e3 I;have h1:=Y t' e1 e2;rw [e3] at h1;have h2:=vy (zR (s2:=((aL s C).leaf t).1) (l:=((aL s C).leaf t).2) Z h1) I;rw [g1] at h2;exact h2
    refine ⟨G :: gs,ge,by simp [r1],?_,.cons g2 r3,r4,?_⟩
    ·rw [S t rfl rfl rfl,r2];simp [eO]
    ·intro l' F;cases F with
     |cons x1 x2 x3 x4 x5=>
      rename_i t' ac
      obtain ⟨I,y1,y2,y3⟩:=r5 ac x5;have hu:u≠none->u.isSome=true:=fun hu=>by cases u with|none=>exact absurd rfl hu|some _=>rfl
      have H:=g5 t' x1 x2 (fun h=>(x4 (hu h)).1);refine ⟨C++[⟨2,0,t'⟩]++I,.on (.yes (by rw [x1];exact J) (PO x1 x2 hR) hkk hm) y1,?_,by simp [er,Sj,x1,x2,y3]⟩;rw [S t' x1 x2 H,y2];simp [eO]
theorem NN:PI [] 0 sx:=⟨fB,rfl,rfl,(fun d hd=>by cases hd),⟨[],kC⟩,rfl,rfl,rfl,.inr rfl⟩
end Go.Proofs.YtcjiapphbpiffaaGreatDoor
