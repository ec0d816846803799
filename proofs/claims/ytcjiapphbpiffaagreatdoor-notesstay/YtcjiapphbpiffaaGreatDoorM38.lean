import Derived.Test.YtcjiapphbpiffaaGreatDoorM27
import Derived.Test.YtcjiapphbpiffaaGreatDoorM37
set_option linter.unusedVariables false
set_option linter.unusedSimpArgs false
namespace Go.Proofs.YtcjiapphbpiffaaGreatDoor
open Go.RowKit
open Lw (Dc bE rt cG dD fu iC jw fJ eQ qK xI)
theorem kD:∀(E:List Ev) {C L:List Dc}{s:Sy},fi C s->du s E=some L->cG 0 0 (C++L)=none
 |[],C,L,s,hS,h=>(zV hS h).1
 |e :: E,C,L,s,hS,h=>by
  rw [gX] at h;cases F:dO s e with
  |none=>rw [F] at h;cases h
  |some x=>
   obtain ⟨G,l⟩:=x;rw [F] at h;simp only at h;obtain ⟨L1,h1,h2⟩:=Ts.1 h;have:=kD E (zS hS F).1 h1;rw [<-h2,<-S5];exact this
theorem pm (n:Nat):∀(a b:List Dc) (C F:List Nat) (p:Lw.Pr),a.length=C.length->Lw.puts n (a++b) (C++F) p=Lw.puts n b F (Lw.puts n a C p)
 |[],b,[],F,p,_=>rfl
 |d :: a,b,m :: C,F,p,h=>pm n a b C F _ (by simpa using h)
def NK:List (Nat × Nat)->List Tv->List UInt8
 |x :: xs,t :: l=>List.replicate x.1 10++(List.replicate x.2 32++(jw t.t++NK xs l))
 |_,_=>[]
inductive MV:List (List Dc)->List (Nat × Nat)->Prop
 |nil:MV [] []
 |cons {G:List Dc} {x:Nat × Nat} {gs:List (List Dc)} {xs:List (Nat × Nat)}:GP G x.1 x.2->MV gs xs->MV (G :: gs) (x :: xs)
theorem Fj (n:Nat) {gs:List (List Dc)}{l:List Tv}{u:Option Tv}(hC:L8 u gs l):∀(C:List Dc) (ms:List Nat) (p:Lw.Pr) (O:List UInt8),GI O [] 0 p->(∀t∈l,t.t.size≠0)->Pb C->ms.length=(eO gs l++C).length ->
  ∃xs,MV gs xs/\(Lw.puts n (eO gs l++C) ms p).sk.out=O++(NK xs l++[10]):=by
 induction hC with
 |nil=>
  intro C ms p O U _ H Y;obtain ⟨a,h⟩:=GI.puts (n:=n) C ms U (fun d hd=>⟨(H.fine d hd).1,(H.fine d hd).2.1⟩) (by simpa [eO] using Y.symm);rw [TB] at h;have S:=h.hd H.hd;have h2:a≠2:=fun e=>(H.fine dE (h.e2 e)).2.2 rfl
  have ha:a=1:=by rcases h.st with ⟨x,_⟩|⟨x,_⟩|⟨x,_⟩ <;> omega
  subst ha;exact ⟨[],.nil,by have:=h.out;simpa [eO,NK] using this⟩
 |cons c1 c2 ih=>
  rename_i u G t gs l
  intro C ms p O U Z H Y;have aa:ms.length=G.length+1+(eO gs l++C).length:=by rw [Y];simp [eO];omega
  obtain ⟨F,M⟩:∃F,ms.take G.length=F:=⟨_,rfl⟩
  obtain ⟨J,I,Q⟩:∃J I,ms.drop G.length=J :: I:=by
   cases hc:ms.drop G.length with
   |nil=>have:=Tm List.length hc;rw [Tw] at this;simp at this;omega
   |cons a b=>exact ⟨a,b,rfl⟩
  have e1:ms=F++(J :: I):=by rw [<-M,<-Q,TR]
  have l1:G.length=F.length:=by rw [<-M,Ty];omega
  have l3:I.length=(eO gs l++C).length:=by
   have:=Tm List.length Q;rw [Tw] at this;simp only [List.length_cons] at this;omega
  have e2:eO (G :: gs) (t :: l)++C=G++(dT t.t :: (eO gs l++C)):=by simp [eO]
  rw [e1,e2,pm n G _ F _ p l1];obtain ⟨a,S⟩:=GI.puts (n:=n) G F U c1.fine l1;rw [TB] at S;obtain ⟨b,g1,g2⟩:=S.text (n:=n) (m:=J) (Z t (S4 ..));obtain ⟨xs,x1,x2⟩:=ih C I _ _ g2 (fun y hy=>Z y (SZ _ hy)) H l3;refine ⟨(a,b) :: xs,.cons g1 x1,?_⟩;show (Lw.puts n (eO gs l++C) I (Lw.put n (dT t.t) J (Lw.puts n G F p))).sk.out=_;rw [x2];simp [NK]
theorem Jw {p:Lw.Pr}(C:p.sk=xI) (F:p.en=false) {n m:Nat}{d:Dc}(hd:rt d=true) (H:d.k≠1):(Lw.put n d m p).sk=xI/\(Lw.put n d m p).en=false:=by
 have G:p.sk.fresh=true:=by rw [C];rfl
 have hold:∀k,(p.hold k).sk=xI/\(p.hold k).en=false:=fun k=>by unfold Lw.Pr.hold;rw [IO G];exact ⟨C,F⟩
 have endl:p.endl.sk=xI/\p.endl.en=false:=by unfold Lw.Pr.endl;rw [IO G];exact ⟨C,F⟩
 cases Lw.mO hd with
 |text t hq=>exact absurd rfl H
 |brk k hq=>
  show (Lw.Pr.sk (if p.brk n m then p.endl else p.hold k.toNat))=xI/\(Lw.Pr.en (if p.brk n m then p.endl else p.hold k.toNat))=false
  split
  ·exact endl
  ·exact hold _
 |beg k e hq=>exact ⟨C,F⟩
 |blank=>exact hold 1
 |hard=>exact endl
 |empty=>
  show (Lw.Pr.sk (if p.en then { p with sk:=p.sk.empty,en:=false } else p))=xI/\(Lw.Pr.en (if p.en then { p with sk:=p.sk.empty,en:=false } else p))=false
  rw [F];exact ⟨C,F⟩
 | «end»=>exact ⟨C,F⟩
theorem Ex {n:Nat}:∀(P:List Dc) (ms:List Nat) {p:Lw.Pr},p.sk=xI->p.en=false->(∀d∈P,rt d=true/\d.k≠1)->P.length=ms.length->(Lw.puts n P ms p).sk=xI/\(Lw.puts n P ms p).en=false
 |[],[],p,h1,h2,_,_=>⟨h1,h2⟩
 |d :: P,m :: ms,p,h1,h2,hr,hl=>by
  obtain ⟨a,b⟩:=Jw h1 h2 (n:=n) (m:=m) (hr d (S4 ..)).1 (hr d (S4 ..)).2;exact Ex P ms a b (fun x C=>hr x (SZ _ C)) (by simpa using hl)
theorem J6 (n:Nat) {G:List Dc}{gs:List (List Dc)}{t:Tv}{l:List Tv}{C:List Dc}{u:Option Tv}(Z:L8 u (G :: gs) (t :: l)) (Q:∀x∈t :: l,x.t.size≠0) (hE:Pb C) :
  ∃xs,MV gs xs/\Lw.jZ n (eO (G :: gs) (t :: l)++C)=jw t.t++(NK xs l++[10]):=by
 cases Z with
 |cons c1 c2=>
  obtain ⟨ms,M⟩:∃ms,(eQ (eO (G :: gs) (t :: l)++C)).1=ms:=⟨_,rfl⟩;have hl:ms.length=(eO (G :: gs) (t :: l)++C).length:=by rw [<-M];exact Lw.kP _
  have aa:ms.length=G.length+1+(eO gs l++C).length:=by rw [hl];simp [eO];omega
  obtain ⟨F,I⟩:∃F,ms.take G.length=F:=⟨_,rfl⟩
  obtain ⟨O,H,J⟩:∃O H,ms.drop G.length=O :: H:=by
   cases hc:ms.drop G.length with
   |nil=>have:=Tm List.length hc;rw [Tw] at this;simp at this;omega
   |cons a b=>exact ⟨a,b,rfl⟩
  have U:ms=F++(O :: H):=by rw [<-I,<-J,TR]
  have S:G.length=F.length:=by rw [<-I,Ty];omega
  have l3:H.length=(eO gs l++C).length:=by
   have:=Tm List.length J;rw [Tw] at this;simp only [List.length_cons] at this;omega
  have Y:eO (G :: gs) (t :: l)++C=G++(dT t.t :: (eO gs l++C)):=by simp [eO]
  unfold Lw.jZ;rw [M,U,Y,pm n G _ F _ qK S];obtain ⟨s1,s2⟩:=Ex (n:=n) G F (p:=qK) rfl rfl c1.fine S;have ht:=Q t (S4 ..)
  have hI:GI (jw t.t) [] 0 (Lw.put n (dT t.t) O (Lw.puts n G F qK)):=by
   refine pT ?_ ?_ rfl
   ·show ((Lw.puts n G F qK).sk.text t.t).out=_
    rw [lV ht,s1];rfl
   ·show ((Lw.puts n G F qK).sk.text t.t).fresh=false
    unfold fJ.text;rw [Eq ht]
  obtain ⟨xs,x1,x2⟩:=Fj n c2 C H _ _ hI (fun y hy=>Q y (SZ _ hy)) hE l3;exact ⟨xs,x1,x2⟩
end Go.Proofs.YtcjiapphbpiffaaGreatDoor
namespace Go.Proofs.YtcjiapphbpiffaaGreatDoor
open Go.RowKit
open Lw (Dc bE rt cG dD fu iC jw)
open Lx (Tx Q8 IF zw DP nL ay xL vw)
variable {l:List Tv}{u:Option Tv}{T:ByteArray}
def mu:List (Nat × Nat)->List Tv->ByteArray
 |x :: xs,t :: l=>nL 10 x.1++(nL 32 x.2++(t.t++mu xs l))
 |_,_=>nL 10 1
def Mc:List (Nat × Nat)->List Tv->List (Nat × ByteArray × Nat)
 |x :: xs,t :: l=>(t.k.toNat,t.t,x.1) :: Mc xs l
 |_,_=>[]
theorem uH (x y:List UInt8):(⟨(x++y).toArray⟩:ByteArray)=⟨x.toArray⟩++⟨y.toArray⟩:=by
 apply WM
 simp [VY]
theorem Ig (t:ByteArray):(⟨(jw t).toArray⟩:ByteArray)=t:=by
 apply WM
 show t.data.toList.toArray=t.data
 simp
theorem J4 {gs:List (List Dc)}(h:L8 u gs l):∀{xs:List (Nat × Nat)},MV gs xs->(⟨(NK xs l++[10]).toArray⟩:ByteArray)=mu xs l:=by
 induction h with
 |nil=>intro xs C;cases C;rfl
 |cons _ _ ih=>
  intro xs C;cases C with
  |cons g1 g2=>
   simp only [NK,mu,S5];rw [uH,uH,uH,Ig,ih g2];rfl
theorem wG (h:0<T.size):∃x r,T.data.toList=x :: r/\x.toNat=ay T 0:=by
 have C:0<T.data.size:=h;cases F:T.data.toList with
 |nil=>
  rw [<-TQ,F] at C;exact absurd C (by decide)
 |cons x r=>
  refine ⟨x,r,rfl,?_⟩;have e:(jw T).getD 0 0=x:=by show (T.data.toList).getD 0 0=x;rw [F];rfl
  rw [<-tJ T 0 h,e]
theorem iU {k:Nat}{t:Tv}(h:t.k=(xL k T:Nat)):((k=1\/k=3)->xA t)/\(k≠1->t.k=(k:Nat)):=by
 unfold xL at h
 by_cases F:k=1/\Lx.ky T=true
 ·rw [IO F] at h;exact ⟨fun _=>.inr (.inl h),fun C=>absurd F.1 C⟩
 ·rw [Eq F] at h;refine ⟨fun C=>?_,fun _=>h⟩
  rcases C with rfl|rfl
  ·exact .inl h
  ·exact .inr (.inr h)
def IA (t:Tv):Prop:=∃k,Tx k t.t/\t.k=(xL k t.t:Nat)
theorem D6 {x:UInt8}{n:Nat}(h:x.toNat=n) (C:n<256):x=UInt8.ofNat n:=by
 apply Wo.1
 rw [h];simp [UInt8.toNat_ofNat];omega
theorem LR {gs:List (List Dc)}(h:L8 u gs l):∀{xs:List (Nat × Nat)}{x:Tv}{C:Nat},u=some x->MV gs xs->(∀t∈l,IA t)->Tx C x.t->x.k=(xL C x.t:Nat)->IF C x.t (mu xs l)/\DP (mu xs l) 0 (Mc xs l):=by
 induction h with
 |nil=>
  intro xs x C _ Y _ _ _;cases Y;exact ⟨Lx.gn (Lx.pZ _ _) (by decide) rfl,Lx.JS 1 0⟩
 |cons c1 c2 ih=>
  rename_i u G t gs l
  intro xs x C hu Y hT hX F;cases Y with
  |cons g1 g2=>
   rename_i y xs
   obtain ⟨a,b⟩:=y;obtain ⟨kt,t1,t2⟩:=hT t (S4 ..);obtain ⟨i1,i2⟩:=ih (xs:=xs) rfl g2 (fun z hz=>hT z (SZ _ hz)) t1 t2;have ac:t.k.toNat=xL kt t.t:=by rw [t2];rfl
   have af:DP (mu ((a,b) :: xs) (t :: l)) 0 (Mc ((a,b) :: xs) (t :: l)):=by
    show DP (nL 10 a++(nL 32 b++(t.t++mu xs l))) 0 ((t.k.toNat,t.t,a) :: Mc xs l)
    rw [ac];refine Lx.JP ?_;rw [Td];exact Lx.Ad t1 i1 i2
   refine ⟨?_,af⟩;subst hu;have aj:=g1.le;have pos:0<t.t.size:=t1.pos
   have hsz:0<(mu ((a,b) :: xs) (t :: l)).size:=by
    show 0<(nL 10 a++(nL 32 b++(t.t++mu xs l))).size
    simp only [Lx.aY];omega
   have S:C=7->1<=a:=by
    intro e;have:x.k=7:=by have:=(iU F).2 (by omega);omega
    exact g1.hd (c1.l7 x rfl this)
   by_cases U:1<=a
   ·refine Lx.gn (Lx.pZ _ _) hsz ?_;show ay (nL 10 a++_) 0=10;rw [Lx.bC,IO (by rw [Lx.dA];omega),Lx.kL _ _ _ (by omega)];rfl
   ·have O:a=0:=by omega
    by_cases hb:1<=b
    ·refine Lx.gn (Lx.yT _ (fun e=>U (S e))) hsz ?_;show ay (nL 10 a++(nL 32 b++_)) 0=32;rw [Lx.bC,Eq (by rw [Lx.dA];omega),Lx.dA,O,Lx.bC,IO (by rw [Lx.dA];omega),Lx.kL _ _ _ (by omega)];rfl
    ·have Z:b=0:=by omega
     have e8:ay (mu ((a,b) :: xs) (t :: l)) 0=ay t.t 0:=by
      show ay (nL 10 a++(nL 32 b++(t.t++mu xs l))) 0=_
      rw [Lx.bC,Eq (by rw [Lx.dA];omega),Lx.dA,O,Lx.bC,Eq (by rw [Lx.dA];omega),Lx.dA,Z,Lx.bC,IO pos]
     refine Lx.gn (c:=ay t.t 0) ?_ hsz e8;have hF:=Lx.uW t1;have ai:=Lx.uW hX;have no:¬G.any bU=true:=fun e=>by rcases g1.gp e with h|h <;> omega
     by_cases h8:C=8
     ·exact ⟨hF.nc,fun e=>by omega,fun e=>by omega,fun e=>by omega,fun e=>by omega⟩
     ·have hnx:¬gQ x:=by
       rintro (e|e)
       ·have ab:C=7:=by
         by_cases J:C=1
         ·have:=(iU F).1 (.inl J)
          rcases this with h|h|h <;> omega
         ·have:=(iU F).2 J;omega
        exact U (S ab)
       ·by_cases J:C=1
        ·have:=(iU F).1 (.inl J)
         rcases this with h|h|h <;> omega
        ·have:=(iU F).2 J;omega
      have H:¬gQ t:=fun e=>no (c1.lN x rfl hnx e)
      obtain ⟨w1,w2⟩:=(c1.lL x rfl hnx H).resolve_left no
      have ad:kt≠7/\kt≠8:=by
       refine ⟨fun e=>H (.inl ?_),fun e=>H (.inr ?_)⟩
       ·have:=(iU t2).2 (by omega);omega
       ·have:=(iU t2).2 (by omega);omega
      refine Lx.Gs (fun e=>U (S e)) hF ad (fun ⟨p,q⟩=>w1 ⟨(iU F).1 p,(iU t2).1 q⟩) ?_;intro e6 es M ah
      have ag:zQ x:=by
       refine ⟨by have:=(iU F).2 (by omega);omega,?_⟩;obtain ⟨z,r,Q,en⟩:=wG hX.pos
       have hr:r=[]:=by
        have:=Tm List.length Q;have hl:x.t.data.toList.length=x.t.size:=TQ;rw [hl,es] at this;simp at this;exact this
       rw [Q,hr];rw [<-en] at M
       rcases M with h|h|h|h|h <;> (rw [D6 h (by decide)];decide)
      have ae:¬If t:=fun h=>w2 ⟨ag,h⟩
      have aa:t.k=6:=by have:=(iU t2).2 (by omega);omega
      obtain ⟨z,r,Q,en⟩:=wG pos
      have I:∀n,(n=61\/n=46\/n=47)->ay t.t 0≠n:=by
       intro n hn e;rw [<-en] at e;refine ae ⟨aa,?_⟩;rw [Q];show nD.contains z=true
       rcases hn with rfl|rfl|rfl <;> (rw [D6 e (by decide)];decide)
      exact ⟨I 61 (.inl rfl),I 46 (.inr (.inl rfl)),I 47 (.inr (.inr rfl))⟩
end Go.Proofs.YtcjiapphbpiffaaGreatDoor
namespace Go.Proofs.YtcjiapphbpiffaaGreatDoor
open Go.RowKit
open Lw (Dc bE rt cG dD fu iC jw)
open Lx (Tx Q8 IF zw DP nL ay xL vw Tk)
variable {T:ByteArray}
inductive Rl:Bool->List Tv->List Tv->Prop
 |nil {b:Bool}:Rl b [] []
 |cons {b:Bool} {t t':Tv} {l l':List Tv}:t'.k=t.k->t'.t=t.t->(b=true->gQ t->(t.f=0↔t'.f=0))->Rl true l l'->Rl b (t :: l) (t' :: l')
theorem Mf {x:Tk}{t:Tv}{f:Nat}(h:vw T x=(t.k.toNat,t.t,f)) (H:IA t):(Lx.tv T x).k=t.k/\(Lx.tv T x).t=t.t/\(Lx.tv T x).f=(f:Int):=by
 obtain ⟨k,_,e⟩:=H;have C:x.k=t.k.toNat:=Tm Prod.fst h;have F:T.extract x.a x.e=t.t:=Tm (fun z=>z.2.1) h;have G:x.f=f:=Tm (fun z=>z.2.2) h;refine ⟨?_,F,by show (x.f:Int)=_;rw [G]⟩;show (x.k:Int)=_;rw [C,e];rfl
theorem PK {gs:List (List Dc)}{l:List Tv}{u:Option Tv}(h:L8 u gs l):∀{xs:List (Nat × Nat)},MV gs xs->u≠none->(∀t∈l,IA t)->∀ts:List Tk,ts.map (vw T)=Mc xs l->Sm true gs l (ts.map (Lx.tv T))/\Rl true l (ts.map (Lx.tv T)):=by
 induction h with
 |nil=>
  intro xs I _ _ ts ht;cases I;have:ts=[]:=List.map_eq_nil_iff.1 ht;subst this;exact ⟨.nil,.nil⟩
 |cons c1 c2 ih=>
  rename_i u G t gs l
  intro xs I hu U ts ht;cases I with
  |cons g1 g2=>
   rename_i y xs
   obtain ⟨a,b⟩:=y;cases ts with
   |nil=>cases ht
   |cons x ts=>
    rw [T1] at ht;have M:vw T x :: ts.map (vw T)=(t.k.toNat,t.t,a) :: Mc xs l:=ht;injection M with h1 h2
    obtain ⟨O,Q,H⟩:=Mf h1 (U t (S4 ..));obtain ⟨i1,i2⟩:=ih g2 (fun h=>by cases h) (fun z hz=>U z (SZ _ hz)) ts h2
    have Z:(2:Int)<=(a:Int)↔dE∈G:=by
     have J:=g1.le;constructor
     ·intro h;exact g1.e2 (by have Y:a<=2:=J;omega)
     ·intro h;have:a=2:=g1.he (c1.hb h);omega
    have S:gQ t->((a:Int)=0↔G.any bI=false):=by
     intro C;constructor
     ·intro h;cases hc:G.any bI with
      |false=>rfl
      |true=>have h9:1<=a:=g1.hd hc;omega
     ·intro h
      apply TF
      intro aa
      rcases g1.no (show 1<=a by omega) with F|F
      ·rw [h] at F;cases F
      ·rw [c1.nb C] at F;cases F
    refine ⟨.cons O Q (by rw [H];omega) (fun _=>⟨by rw [H];exact Z,fun C=>by rw [H];exact S C⟩) i1,.cons O Q (fun _ C=>?_) i2⟩;rw [H,S C];exact c1.nf C hu
theorem oK (s:ByteArray) (h0:(Lx.cV s).2.1=0) {E:List Ev}{a:Nat}(U:gS (.live [] 0) (gR s) E 0 a) :
  ∃L,du sx E=some L/\cG 0 0 L=none/\∀n:Nat,(Lx.cV ⟨(Lw.jZ n L).toArray⟩).2.1=0/\(∃H,gS (.live [] 0) (gR ⟨(Lw.jZ n L).toArray⟩) H 0 a/\du sx H=some L/\H.map er=E.map er)/\Rl false (gR s) (gR ⟨(Lw.jZ n L).toArray⟩):=by
 have Y:=Jr s h0;obtain ⟨gs,ge,r1,Z,r3,r4,r5⟩:=sM (gR s) [] 0 sx none E a U NN rfl Y (fun x t F=>by cases F);refine ⟨_,Z,(by have h:=kD E kC Z;rw [TB] at h;exact h),fun n=>?_⟩;have C:∀t∈gR s,IA t:=fun t ht=>Y.tx t ht
 generalize hl:gR s=l at U Y r1 Z r3 r5 C ⊢
 cases r3 with
 |nil=>
  exfalso
  obtain ⟨S,_⟩:=U.end;cases S with
  |all hK=>cases hK
 |cons c1 c2=>
  rename_i G t gs l
  obtain ⟨kt,t1,t2⟩:=C t (S4 ..);have hsz:∀x∈t :: l,x.t.size≠0:=fun x F=>by obtain ⟨k,h,_⟩:=C x F;have:=h.pos;omega
  obtain ⟨xs,x1,x2⟩:=J6 n (.cons c1 c2) hsz r4;have J:∀z∈l,IA z:=fun z hz=>C z (SZ _ hz)
  obtain ⟨b1,b2⟩:=LR c2 rfl x1 J t1 t2
  have eT:(⟨(Lw.jZ n (eO (G :: gs) (t :: l)++ge)).toArray⟩:ByteArray)=t.t++mu xs l:=by
   rw [x2,uH,Ig,J4 c2 x1]
  rw [eT];obtain ⟨d1,d2⟩:=Lx.Ad (f:=0) t1 b1 b2;obtain ⟨T,hTT⟩:∃T,t.t++mu xs l=T:=⟨_,rfl⟩;rw [hTT] at d1 d2 ⊢;have I:Lx.cV T=Lx.ep T 0 0:=rfl;have hd:(Lx.cV T).1.map (vw T)=(xL kt t.t,t.t,0) :: Mc xs l:=by rw [I];exact d2
  obtain ⟨x,ts,ac,F,M⟩:∃x ts,(Lx.cV T).1=x :: ts/\vw T x=(xL kt t.t,t.t,0)/\ts.map (vw T)=Mc xs l:=by
   cases S:(Lx.cV T).1 with
   |nil=>rw [S] at hd;cases hd
   |cons x ts=>rw [S,T1] at hd;injection hd with O Q;exact ⟨x,ts,rfl,O,Q⟩
  have aa:t.k.toNat=xL kt t.t:=by rw [t2];rfl
  rw [<-aa] at F;obtain ⟨O,Q,e3⟩:=Mf F (C t (S4 ..));obtain ⟨i1,i2⟩:=PK c2 x1 (fun h=>by cases h) J ts M;have ab:gR T=Lx.tv T x :: ts.map (Lx.tv T):=by show (Lx.cV T).1.map (Lx.tv T)=_;rw [ac];rfl
  rw [ab];refine ⟨by rw [I];exact d1,?_,.cons O Q (fun h=>by cases h) i2⟩;obtain ⟨H,y1,y2⟩:=r5 (Lx.tv T x :: ts.map (Lx.tv T)) (.cons O Q (by rw [e3];omega) (fun h=>by cases h) i1);exact ⟨H,y1,y2⟩
end Go.Proofs.YtcjiapphbpiffaaGreatDoor
namespace Go.Proofs.YtcjiapphbpiffaaGreatDoor
open Go.RowKit
variable {t:Tv}{k:Nat}{K:List It}{n:Int}{E:List Ev}{R:Ro}
theorem No (h:Ru t k K n E R):∀{G:Nat}{F:Ro},Ru t G K n E F->k=G/\R=F:=by
 induction h with
 |nil=>intro G F C;cases C;exact ⟨rfl,rfl⟩
 |ref hs=>
  intro G F C;cases C with
  |ref _=>exact ⟨rfl,rfl⟩
  |tk h2=>rw [hs] at h2;cases h2
  |go h2 _=>rw [hs] at h2;cases h2
 |tk hs=>
  intro G F C;cases C with
  |ref h2=>rw [hs] at h2;cases h2
  |tk _=>exact ⟨rfl,rfl⟩
  |go h2 _=>rw [hs] at h2;cases h2
 |go hs _ ih=>
  intro G F C;cases C with
  |ref h2=>rw [hs] at h2;cases h2
  |tk h2=>rw [hs] at h2;cases h2
  |go h2 h3=>
   rw [hs] at h2;cases h2;obtain ⟨rfl,rfl⟩:=ih h3;exact ⟨rfl,rfl⟩
theorem Nm (h:Ru t k K n E R):∀{L:List It}{m:Int}{F:List Ev},R=.yes L m F->j8 K->∃o,F=E++o/\o.length<=k:=by
 induction h with
 |nil=>intro L m F h;cases h
 |ref _=>intro L m F h;cases h
 |tk hs=>intro L m F h _;cases h;exact ⟨[],by simp,gt _⟩
 |go hs _ ih=>
  rename_i k i K n d E o r R _
  intro L m F h C;have H:=C i (S4 ..);obtain ⟨G,J,M,O⟩:=fQ (K:=K) hs H;obtain ⟨o2,b1,b2⟩:=ih h (fO G (fun j I=>C j (SZ _ I)));exact ⟨o++o2,by rw [b1,S5],by rw [Or];omega⟩
def qM (o:List Ev):Nat:=o.countP (fun e=>decide (e.k=1))
theorem Ay (a b:List Ev):qM (a++b)=qM a+qM b:=WF ..
theorem FC (a:List Ev):qM a<=a.length:=List.countP_le_length
theorem EN (h:Ru t k K n E R):∀{L:List It}{m:Int}{F:List Ev},R=.yes L m F->j8 K->∃o,F=E++o/\qM o<=10:=by
 induction h with
 |nil=>intro L m F h;cases h
 |ref _=>intro L m F h;cases h
 |tk hs=>intro L m F h _;cases h;exact ⟨[],by simp,by simp [qM]⟩
 |go hs hr ih=>
  rename_i k i K n d E o r R
  intro L m F h Q;have J:=Q i (S4 ..);obtain ⟨Y,a2,a3,a4⟩:=fQ (K:=K) hs J
  have C:∀c,c<=10->fM t c i->∃o,F=E++o/\qM o<=10:=by
   intro c hc U;obtain ⟨k',R',aa,S⟩:=U K n E;have H:=Ru.go hs hr;obtain ⟨e1,e2⟩:=No H S;obtain ⟨M,O,Z⟩:=Nm H h Q;exact ⟨M,O,by have:=FC M;omega⟩
  have G:o=[]\/(∃e,o=[e]/\e.k≠1)->∃o,F=E++o/\qM o<=10:=by
   intro ho;obtain ⟨M,O,Z⟩:=ih h (fO Y (fun j hj=>Q j (SZ _ hj)));refine ⟨o++M,by rw [O,S5],?_⟩;rw [Ay]
   have:qM o=0:=by
    rcases ho with rfl|⟨e,rfl,he⟩
    ·rfl
    ·simp [qM,he]
   omega
  cases i with
  |fl x=>exact C 8 (by omega) (rf t x)
  |lv a=>cases hs;exact G (.inr ⟨_,rfl,by show (3:Int)≠1;decide⟩)
  |once p=>
   cases I:Pk.pick t p with
   |none=>simp only [It.step,I] at hs;cases hs;exact G (.inl rfl)
   |some j=>exact C 10 (by omega) (ce (r:=[]) (by simp [It.step,I];exact ⟨rfl,rfl⟩) (jp J I))
  |again p=>
   cases I:Pk.pick t p with
   |none=>simp only [It.step,I] at hs;cases hs;exact G (.inl rfl)
   |some j=>exact C 10 (by omega) (ce (r:=[.again p]) (by simp [It.step,I,Iy];exact ⟨rfl,rfl⟩) (jp J I))
  |all rr=>
   obtain ⟨⟨kk,ts,rest,rfl⟩,_⟩:=J;exact C 1 (by omega) (ce (r:=rest.map It.fl) rfl (jq t (.wd kk ts) aC 0))
theorem Ft {o:List Ev}(G:oA o):∀{s s':List Int},cJ s o=some s'->o.length+s'.length=s.length+2*qM o:=by
 induction o with
 |nil=>intro s s' h;cases h;simp [qM]
 |cons e o ih=>
  intro s s' h;have F:oA o:=fun x J=>G x (SZ _ J)
  have H:qM (e :: o)=qM o+(if e.k=1 then 1 else 0):=by unfold qM;rw [Uc];simp
  rcases G e (S4 ..) with C|I
  ·simp only [cJ,IO C] at h;have:=ih F h;rw [H,IO C];simp only [List.length_cons] at this ⊢;omega
  ·have C:¬e.k=1:=by omega
   simp only [cJ,Eq C,IO I] at h;cases s with
   |nil=>cases h
   |cons a b=>
    simp only at h
    split at h
    ·have:=ih F h;rw [H,Eq C];simp only [List.length_cons] at this ⊢;omega
    ·cases h
theorem BC:∀(l:List Tv) (K:List It) (n:Int) (E:List Ev) (a:Nat),gS (.live K n) l E 0 a->gu (.live K n)->E.length<=(bM K).length+23*l.length+1
 |[],K,n,E,a,hA,hg=>by
  obtain ⟨C,_⟩:=hA.end;cases C with
  |all hK=>show 1<=_;omega
 |t :: l,K,n,E,a,hA,hg=>by
  rcases hA.inv with ⟨_,_,_,C,_⟩|⟨ev,st',O,Y,G,H,rfl,rfl⟩
  ·exact absurd rfl C
  ·obtain ⟨s,J⟩:∃s:Sy,s.ks=bM K:=⟨⟨(bM K).map (fun k=>⟨k,0,false⟩),[],none,false,false,false⟩,by unfold Sy.ks;rw [Xa];exact List.map_id _⟩;obtain ⟨o,e,K',n',rfl,rfl,hg',hB,hn,hpl,hlen,rfl⟩:=Ak hg J G;have S:=BC l K' n' O Y H hg';have U:=Ft hB hpl;rw [J] at U
   have h4:qM o<=11:=by
    obtain ⟨Q,b2,b3,b4,b5,M,Z,I⟩:=cQ hg;have aa:qM (bR n)<=1:=SY (FC _) I
    generalize ab:(⟨if (t.k == 7 || t.k == 8)=true then 4 else 2,0,t⟩:Ev)=e0 at G
    generalize F:o++[e0]=ev0 at G
    cases G with
    |note C=>
     have:o=bR n:=(Vs F rfl).1;rw [this];omega
    |yes C hR hkk hm=>
     obtain ⟨o2,c1,c2⟩:=EN hR rfl Q;have:=(Vs F rfl).1;rw [this,c1,Ay];omega
   rw [Or,Or];simp only [List.length_cons,List.length_nil] at S ⊢;omega
end Go.Proofs.YtcjiapphbpiffaaGreatDoor
namespace Go.Proofs.YtcjiapphbpiffaaGreatDoor
open Go.RowKit
open Lw (Dc bE rt cG dD fu iC jw)
def jY (n:Int) (o:List Ev):Nat:=o.countP (fun e=>decide (e.k=1) && decide (e.n=n))
theorem Bm (n:Int) (a b:List Ev):jY n (a++b)=jY n a+jY n b:=WF ..
def wH (m:M):List It->Nat
 |.fl (.mt m') :: _=>if m'=m then 1 else 0
 |_=>0
theorem pc {m1 m2:M}{n1 n2:Int}(Q:m1≠m2) (hn:n1≠n2) (h1:∀t,∃r,M.row t m1=.op n1 (.fl (.mt m2) :: r)) (U:∀t,∃r,M.row t m2=.op n2 r) (ho:∀t m r,M.row t m=.op n1 r->m=m1)
  {t:Tv} {k:Nat} {K:List It} {n:Int} {E:List Ev} {R:Ro} (h:Ru t k K n E R):∀{L:List It} {m:Int} {F:List Ev},R=.yes L m F->∃o,F=E++o/\jY n1 o+wH m2 K<=jY n2 o:=by
 induction h with
 |nil=>intro L m F h;cases h
 |ref _=>intro L m F h;cases h
 |tk hs=>
  rename_i i K n E
  intro L m F h;cases h;refine ⟨[],by simp,?_⟩
  have:wH m2 (i :: K)=0:=by
   unfold wH
   split
   ·rename_i m' _ e
    injection e with J _
    subst J
    exfalso
    simp only [It.step,Fl.step] at hs;cases C:M.row t m' <;> rw [C] at hs <;> cases hs
   ·rfl
  rw [this];exact gt _
 |go hs _ ih=>
  rename_i k i K n d E o r R _
  intro L m F h;obtain ⟨G,Y,Z⟩:=ih h;refine ⟨o++G,by rw [Y,S5],?_⟩;rw [Bm,Bm];cases i with
  |fl x=>
   have hm:∃m,x=.mt m:=by
    cases x with
    |mt m=>exact ⟨m,rfl⟩
    |_=>simp only [It.step,Fl.step] at hs;split at hs <;> cases hs
   obtain ⟨I,rfl⟩:=hm;simp only [It.step,Fl.step] at hs;have hh:wH m2 (It.fl (.mt I) :: K)=if I=m2 then 1 else 0:=rfl
   rw [hh];cases C:M.row t I with
   |ref=>rw [C] at hs;cases hs
   |ex r'=>
    rw [C] at hs;cases hs;have:I≠m2:=fun e=>by subst e;obtain ⟨O,H⟩:=U t;rw [C] at H;cases H
    rw [Eq this];show 0+jY n1 G+0<=0+jY n2 G;omega
   |op nd r'=>
    rw [C] at hs;cases hs
    have c:∀q:Int,jY q [⟨1,nd,aB⟩]=if nd=q then 1 else 0:=by
     intro q;unfold jY
     by_cases e:nd=q <;> simp [e]
    rw [c,c]
    by_cases J:I=m1
    ·subst J;obtain ⟨O,H⟩:=h1 t;rw [C] at H;injection H with h4 h5
     subst h4 h5;have hx:wH m2 ((.fl (.mt m2) :: O++[.lv nd])++K)=1:=by show (if m2=m2 then 1 else 0)=1;rw [IO rfl]
     rw [hx] at Z;rw [IO rfl,Eq hn,Eq Q];omega
    ·have e2:nd≠n1:=fun e=>J (ho t I r' (by rw [C,e]))
     rw [Eq e2]
     by_cases S:I=m2
     ·subst S;obtain ⟨O,H⟩:=U t;rw [C] at H;injection H with h4 h5
      subst h4;rw [IO rfl,IO rfl];omega
     ·rw [Eq S];omega
  |lv a=>cases hs;show 0+jY n1 G+0<=0+jY n2 G;omega
  |once p=>cases hs;show 0+jY n1 G+0<=0+jY n2 G;omega
  |again p=>cases hs;show 0+jY n1 G+0<=0+jY n2 G;omega
  |all rr=>cases hs;show 0+jY n1 G+0<=0+jY n2 G;omega
theorem pe {n:Int}{m1:M}(C:n=21/\m1=.expr\/n=22/\m1=.rel\/n=23/\m1=.sum) (t:Tv) (m:M) (r:List It) (h:M.row t m=.op n r):m=m1:=by
 rcases C with ⟨rfl,rfl⟩|⟨rfl,rfl⟩|⟨rfl,rfl⟩ <;> cases m <;> first|rfl|(simp only [M.row,co] at h;repeat' (split at h));all_goals first|(cases h;done)|rfl
theorem JL {t:Tv}{k:Nat}{K:List It}{n:Int}{E:List Ev}{L:List It}{m:Int}{F:List Ev}(h:Ru t k K n E (.yes L m F)) (J:j8 K):∃o,F=E++o/\jY 21 o<=2:=by
 obtain ⟨o,C,c1⟩:=EN h rfl J;obtain ⟨o1,f1,g1⟩:=pc (m1:=.expr) (m2:=.rel) (n1:=21) (n2:=22) (by decide) (by decide) (fun t=>⟨_,rfl⟩) (fun t=>⟨_,rfl⟩) (pe (.inl ⟨rfl,rfl⟩)) h rfl;obtain ⟨o2,f2,g2⟩:=pc (m1:=.rel) (m2:=.sum) (n1:=22) (n2:=23) (by decide) (by decide) (fun t=>⟨_,rfl⟩) (fun t=>⟨_,rfl⟩) (pe (.inr (.inl ⟨rfl,rfl⟩))) h rfl;obtain ⟨o3,f3,g3⟩:=pc (m1:=.sum) (m2:=.term) (n1:=23) (n2:=24) (by decide) (by decide) (fun t=>⟨_,rfl⟩) (fun t=>⟨_,rfl⟩) (pe (.inr (.inr ⟨rfl,rfl⟩))) h rfl;have M:=Ug (C.symm.trans f1);have O:=Ug (C.symm.trans f2);have Q:=Ug (C.symm.trans f3);subst M O Q;refine ⟨o,C,?_⟩
 have S:jY 21 o+jY 22 o+jY 23 o+jY 24 o<=qM o:=by
  clear C c1 f1 g1 f2 g2 f3 g3
  induction o with
  |nil=>exact gt _
  |cons e o ih=>
   have G:∀n:Int,jY n (e :: o)=jY n o+(if e.k=1/\e.n=n then 1 else 0):=by
    intro n;unfold jY;rw [Uc];simp
   have I:qM (e :: o)=qM o+(if e.k=1 then 1 else 0):=by unfold qM;rw [Uc];simp
   rw [G,G,G,G,I]
   by_cases H:e.k=1
   ·simp only [H,true_and,Vb]
    repeat' split
    all_goals omega
   ·simp only [H,false_and,Ui];omega
 omega
end Go.Proofs.YtcjiapphbpiffaaGreatDoor
namespace Go.Proofs.YtcjiapphbpiffaaGreatDoor
open Go.RowKit
open Lw (Dc bE rt cG dD fu iC jw ud qD)
variable {o:List Ev}
def Rj (d:Dc):Bool:=!(decide (d.k=6) || decide (d.k=7))
def fH (l:List Dc):Nat:=l.countP Rj
theorem dF (a b:List Dc):fH (a++b)=fH a+fH b:=WF ..
theorem gT (d:Dc) (b:List Dc):fH (d :: b)=fH b+(if Rj d=true then 1 else 0):=Uc ..
theorem jk (d:Dc):fH [d]<=1:=by rw [gT];split <;> simp [fH]
def Pz.nb (p:Pz):Nat:=match p with|.S=>1|.B0=>1|.B1=>1|.H=>1|_=>0
def Mp (l:List Pz):Nat:=(l.map Pz.nb).sum
theorem QG (s:Sy) (p:Pz):fH (s.aw p).ws<=fH s.ws+p.nb:=by
 rw [sa,dF]
 have:fH (jN p s.ns)<=p.nb:=by
  unfold jN
  split
  ·exact SW _
  ·cases p <;> exact gt _
 omega
theorem zu (l:List Pz):∀s:Sy,fH (s.aws l).ws<=fH s.ws+Mp l:=by
 induction l with
 |nil=>intro s;exact gt _
 |cons p l ih=>
  intro s;rw [cj];have C:=ih (s.aw p);have F:=QG s p;have G:Mp (p :: l)=p.nb+Mp l:=rfl;omega
theorem ME (a:Fx):Mp a.pz<=1:=by cases a <;> decide
def mQ (l:List Nd):Nat:=l.countP (fun n=>decide (n.k=1))
def f9 (s:Sy):Nat:=fH s.ws+mQ s.ns
theorem Kc (p:Pz) (l:List Nd):mQ (iw p l)=mQ l:=by
 cases l with
 |nil=>rfl
 |cons n r=>simp only [iw];split <;> (unfold mQ;rw [Uc,Uc])
theorem Kb (l:List Pz):∀s:Sy,mQ (s.aws l).ns=mQ s.ns:=by
 induction l with
 |nil=>intro s;rfl
 |cons p l ih=>intro s;rw [cj,ih];exact Kc p s.ns
theorem td (s:Sy) (l:List Pz):f9 (s.aws l)<=f9 s+Mp l:=by
 unfold f9;rw [Kb];have:=zu l s;omega
theorem yA (s:Sy):f9 s.exprIn<=f9 s+1:=by
 unfold Sy.exprIn
 split
 ·omega
 ·rename_i n r e
  have C:mQ (⟨n.k,(if n.k=19 then n.b+1 else n.b),true⟩ :: r)=mQ s.ns:=by rw [e];unfold mQ;rw [Uc,Uc]
  show fH (if n.k=19 then s.aws [.S,.I 3] else if n.k=31/\n.s=false then s.aws [.B0] else s).ws+mQ (⟨n.k,(if n.k=19 then n.b+1 else n.b),true⟩ :: r)<=_
  rw [C];unfold f9
  split
  ·have:=zu [.S,.I 3] s;have:Mp [.S,.I 3]=1:=rfl;omega
  ·split
   ·have:=zu [.B0] s;have:Mp [.B0]=1:=rfl;omega
   ·omega
def Py (k:Int):Nat:=(if k=21 then 1 else 0)+(if k=1 then 1 else 0)
theorem Cv (s:Sy) (k:Int):f9 (s.opens k)<=f9 s+Py k:=by
 obtain ⟨C,F⟩:∃C,(if k=21 then s.exprIn else s)=C:=⟨_,rfl⟩
 have G:f9 C<=f9 s+(if k=21 then 1 else 0):=by
  rw [<-F];split
  ·exact yA s
  ·omega
 have H:f9 (C.mark k)=f9 C:=by unfold Sy.mark;split <;> rfl
 have e:s.opens k=Sy.aws { (C.mark k) with ns:=⟨k,0,false⟩ :: (C.mark k).ns } (qL k):=by unfold Sy.opens;simp only;rw [F]
 rw [e];have I:=td { (C.mark k) with ns:=⟨k,0,false⟩ :: (C.mark k).ns } (qL k);have J:Mp (qL k)=0:=by unfold qL;split;rfl;split <;> rfl
 have M:f9 ({ (C.mark k) with ns:=⟨k,0,false⟩ :: (C.mark k).ns }:Sy)=f9 (C.mark k)+(if k=1 then 1 else 0):=by
  show fH (C.mark k).ws+mQ (⟨k,0,false⟩ :: (C.mark k).ns)=fH (C.mark k).ws+mQ (C.mark k).ns+_
  unfold mQ;rw [Uc];simp;omega
 unfold Py;omega
theorem yz (s:Sy):f9 s.leaves<=f9 s:=by
 unfold Sy.leaves
 split
 ·omega
 ·rename_i n r e
  show fH (s.ws++List.replicate n.b dX++(if n.k=1 then [dH] else []))+mQ r<=_
  have C:mQ s.ns=mQ r+(if n.k=1 then 1 else 0):=by rw [e];unfold mQ;rw [Uc];simp
  have F:fH (List.replicate n.b dX)=0:=by unfold fH;rw [List.countP_replicate];rfl
  unfold f9;rw [dF,dF,F,C]
  split
  ·have:=jk dH;omega
  ·show _+0+fH []+_<=_;have:fH []=0:=rfl;omega
theorem Cu (s:Sy) (a:Fx) (f:Int):f9 (s.ready a f)<=f9 s+4:=by
 have I:=td s a.pz;have J:=ME a
 have H:f9 ((s.aws a.pz).emp f)<=f9 (s.aws a.pz)+1:=by
  unfold Sy.emp
  split
  ·omega
  ·split
   ·omega
   ·rename_i m _ _
    show fH ((s.aws a.pz).ws.take m++dE :: (s.aws a.pz).ws.drop m)+mQ (s.aws a.pz).ns<=_
    have G:fH (s.aws a.pz).ws=fH ((s.aws a.pz).ws.take m)+fH ((s.aws a.pz).ws.drop m):=by rw [<-dF,TR]
    unfold f9;rw [dF,gT,G]
    split <;> omega
 have C:∀u:Sy,f9 u.endl<=f9 u+1:=fun u=>by
  unfold Sy.endl
  split
  ·show fH (dH :: u.ws)+mQ u.ns<=_;unfold f9;rw [gT];split <;> omega
  ·omega
 have F:∀u:Sy,f9 u.part<=f9 u+1:=fun u=>by
  unfold Sy.part
  split
  ·show fH (u.ws++[dS])+mQ u.ns<=_;unfold f9;rw [dF];have:=jk dS;omega
  ·omega
 unfold Sy.ready;have:=F ((s.aws a.pz).emp f).endl;have:=C ((s.aws a.pz).emp f);omega
theorem Fq (s:Sy) (t:Tv):fH (s.leaf t).2+f9 (s.leaf t).1<=f9 s+6:=by
 unfold Sy.leaf
 split
 ·have C:fH ([]:List Dc)=0:=rfl;show fH []+f9 s<=f9 s+6;omega
 ·rename_i n r e
  have F:=Cu s (aH n t).a t.f;have G:=td ⟨(s.ready (aH n t).a t.f).ns,[],none,true,false,false⟩ (aH n t).b.pz;have H:=ME (aH n t).b
  have I:f9 ⟨(s.ready (aH n t).a t.f).ns,[],none,true,false,false⟩=mQ (s.ready (aH n t).a t.f).ns:=by
   have C:fH ([]:List Dc)=0:=rfl;show fH []+mQ (s.ready (aH n t).a t.f).ns=mQ (s.ready (aH n t).a t.f).ns;omega
  show fH ((s.ready (aH n t).a t.f).ws++[dT t.t])+f9 (Sy.aws ⟨(s.ready (aH n t).a t.f).ns,[],none,true,false,false⟩ (aH n t).b.pz)<=_
  rw [dF];have:=jk (dT t.t);have J:f9 (s.ready (aH n t).a t.f)=fH (s.ready (aH n t).a t.f).ws+mQ (s.ready (aH n t).a t.f).ns:=rfl;omega
theorem Fp (s:Sy) (t:Tv):fH (s.note t).2+f9 (s.note t).1<=f9 s+6:=by
 have C:fH s.ws=fH (s.ws.takeWhile bj)+fH (s.ws.dropWhile bj):=by rw [<-dF,U6]
 have F:=jk (dT t.t);have G:=jk dS;unfold Sy.note;simp only
 split
 ·show fH (s.ws.takeWhile bj++[dS,dT t.t])+(fH (s.ws.dropWhile bj)+mQ s.ns)<=_
  unfold f9;rw [dF,show ([dS,dT t.t]:List Dc)=[dS]++[dT t.t] from rfl,dF,C];omega
 ·show fH (s.ws.takeWhile bj++dH :: ((if _ then [dE] else [])++[dT t.t]))+(fH (s.ws.dropWhile bj)+mQ s.ns)<=_
  unfold f9;rw [dF,gT,dF,C];have H:=jk dE;have I:fH ([]:List Dc)=0:=rfl
  split <;> split <;> omega
def Pj (e:Ev):Nat:=if e.k=1 then Py e.n else if e.k=3 then 0 else 6
def uP (E:List Ev):Nat:=(E.map Pj).sum
theorem nv (a b:List Ev):uP (a++b)=uP a+uP b:=by unfold uP;rw [UB,Xc]
theorem J8 {s s':Sy}{e:Ev}{l:List Dc}(h:dO s e=some (s',l)):fH l+f9 s'<=f9 s+Pj e:=by
 unfold dO at h
 split at h
 ·have C:=TE h;obtain ⟨F,G⟩:(s.step e).1=s'/\(s.step e).2=l:=⟨by rw [C],by rw [C]⟩;rw [<-F,<-G];unfold Sy.step Pj
  split
  ·have I:=Cv s e.n;have H:fH ([]:List Dc)=0:=rfl;show fH []+f9 (s.opens e.n)<=f9 s+Py e.n;omega
  ·split
   ·have I:=yz s;have H:fH ([]:List Dc)=0:=rfl;show fH []+f9 s.leaves<=f9 s+0;omega
   ·split
    ·exact Fq s e.d
    ·exact Fp s e.d
 ·cases h
theorem zB:∀(E:List Ev) {s:Sy}{L:List Dc},du s E=some L->fH L<=f9 s+uP E+1
 |[],s,L,h=>by
  have C:iy s=some L:=h;unfold iy at C
  split at C
  ·cases C;unfold Sy.endl;unfold f9
   split
   ·show fH (dH :: s.ws)<=_;rw [gT];split <;> omega
   ·omega
  ·cases C
 |e :: E,s,L,h=>by
  rw [gX] at h;cases F:dO s e with
  |none=>rw [F] at h;cases h
  |some x=>
   obtain ⟨J,l⟩:=x;rw [F] at h;simp only at h;obtain ⟨L1,h1,h2⟩:=Ts.1 h;have G:=zB E h1;have H:=J8 F;have I:uP (e :: E)=Pj e+uP E:=rfl;rw [<-h2,dF];omega
theorem IZ (F:oA o):uP o<=jY 21 o+jY 1 o:=by
 induction o with
 |nil=>exact gt _
 |cons e o ih=>
  have J:=ih (fun x I=>F x (SZ _ I))
  have G:∀n:Int,jY n (e :: o)=jY n o+(if e.k=1/\e.n=n then 1 else 0):=by
   intro n;unfold jY;rw [Uc];simp
  have H:uP (e :: o)=Pj e+uP o:=rfl;rw [H,G,G];unfold Pj Py
  rcases F e (S4 ..) with C|C
  ·simp only [C,true_and,Vb]
   repeat' split
   all_goals omega
  ·rw [Eq (by omega),IO C]
   repeat' split
   all_goals omega
theorem Ip:∀(l:List Tv) (K:List It) (n:Int) (E:List Ev) (a:Nat),gS (.live K n) l E 0 a->gu (.live K n)->uP E<=8*l.length+uP (bR n)
 |[],K,n,E,a,hA,hg=>by
  obtain ⟨C,_⟩:=hA.end;cases C with
  |all hK=>exact SW _
 |t :: l,K,n,E,a,hA,hg=>by
  rcases hA.inv with ⟨_,_,_,C,_⟩|⟨ev,st',E2,k2,Z,I,rfl,rfl⟩
  ·exact absurd rfl C
  ·obtain ⟨S,b2,b3,b4,b5,G,ac,aa⟩:=cQ hg;have M:=(dU hg Z).1
   have Q:uP ev<=8+uP (bR n)/\∃K' F,st'=.live K' F/\F≠0:=by
    cases Z with
    |note C=>
     rw [nv];have:uP [⟨4,0,t⟩]=6:=rfl;refine ⟨by omega,_,_,rfl,?_⟩;unfold ii
     split
     ·decide
     ·rename_i hn;simpa using hn
    |yes C hR hkk hm=>
     obtain ⟨_,_,d3,o,U,_,Y,_⟩:=eM hR rfl S b2 b3;have ab:=jh (pd hR rfl G);obtain ⟨o2,f1,f2⟩:=JL hR S;rw [U] at f1;have q:=Ug f1;subst q;have J:oA o:=fun e H=>(Y e H).2.1
     have h1:=IZ J
     have h2:jY 1 o=0:=by
      unfold jY;rw [List.countP_eq_zero];intro e H;have:=(Y e H).2.2;simp;exact this
     rw [U,nv,nv];have:uP [⟨2,0,t⟩]=6:=rfl;exact ⟨by omega,_,_,rfl,by omega⟩
   obtain ⟨k1,K',F,rfl,O⟩:=Q;have h2:=Ip l K' F E2 k2 I M
   have h3:uP (bR F)=0:=by
    unfold bR;rw [Eq (by simpa using O)];rfl
   rw [nv,List.length_cons];omega
def Ek (l:List ByteArray):Nat:=(l.map (·.size)).sum
theorem Jq (a b:List ByteArray):Ek (a++b)=Ek a+Ek b:=by unfold Ek;rw [UB,Xc]
theorem D4:∀(L:List Dc),(∀d∈L,rt d=true)->qD L<=1001*fH L+2*Ek (oJ L)
 |[],_=>by simp [qD,fH,oJ,Ek]
 |d :: L,h=>by
  have J:=D4 L (fun x I=>h x (SZ _ I));have G:qD (d :: L)=ud d+qD L:=rfl;have H:oJ (d :: L)=oJ [d]++oJ L:=by rw [<-kv];rfl
  rw [G,gT,H,Jq]
  have C:ud d<=(if Rj d=true then 1001 else 0)+2*Ek (oJ [d]):=by
   cases Lw.mO (h d (S4 ..)) with
   |text t hq=>
    have:oJ [⟨1,t,0,0,false⟩]=[t]:=rfl;rw [this];show 2*t.size+1001<=1001+2*(t.size+0);omega
   |brk n hq=>exact gt _
   |beg n e hq=>exact gt _
   |blank=>exact gt _
   |hard=>exact gt _
   |empty=>exact gt _
   | «end»=>exact gt _
  split at C <;> rename_i F
  ·rw [IO F];omega
  ·rw [Eq F];omega
theorem vu:∀(E:List Ev) {C L:List Dc}{s:Sy},fi C s->du s E=some L->oJ L=E.flatMap Oz
 |[],C,L,s,hS,h=>(zV hS h).2
 |e :: E,C,L,s,hS,h=>by
  rw [gX] at h;cases F:dO s e with
  |none=>rw [F] at h;cases h
  |some x=>
   obtain ⟨G,l⟩:=x;rw [F] at h;simp only at h;obtain ⟨L1,h1,h2⟩:=Ts.1 h;obtain ⟨a1,a2,_⟩:=zS hS F;rw [<-h2,kv,a2,vu E a1 h1];rfl
theorem LO (C:oA o):o.flatMap Oz=[]:=by
 induction o with
 |nil=>rfl
 |cons e o ih=>
  rw [List.flatMap_cons,ih (fun x F=>C x (SZ _ F)),TG];unfold Oz
  rcases C e (S4 ..) with h|h
  ·rw [IO h]
  ·rw [Eq (by omega),IO h]
theorem BB:∀(l:List Tv) (K:List It) (n:Int) (E:List Ev) (a:Nat),gS (.live K n) l E 0 a->gu (.live K n)->E.flatMap Oz=l.map (·.t)
 |[],K,n,E,a,hA,hg=>by
  obtain ⟨C,_⟩:=hA.end;cases C with
  |all hK=>rfl
 |t :: l,K,n,E,a,hA,hg=>by
  rcases hA.inv with ⟨_,_,_,C,_⟩|⟨ev,st',G,J,H,F,rfl,rfl⟩
  ·exact absurd rfl C
  ·obtain ⟨s,I⟩:∃s:Sy,s.ks=bM K:=⟨⟨(bM K).map (fun k=>⟨k,0,false⟩),[],none,false,false,false⟩,by unfold Sy.ks;rw [Xa];exact List.map_id _⟩;obtain ⟨o,e,K',n',rfl,rfl,hg',hB,hn,hpl,hlen,rfl⟩:=Ak hg I H;rw [Wk,Wk,LO hB,BB l K' n' G J F hg']
   have:Oz ⟨if (t.k == 7 || t.k == 8)=true then 4 else 2,0,t⟩=[t.t]:=by
    by_cases C:(t.k == 7 || t.k == 8)=true
    ·rw [IO C];rfl
    ·rw [Eq C];rfl
   rw [List.flatMap_cons,this];rfl
theorem oh (s:ByteArray):∀(d a f:Nat),s.size-a<=d->Ek ((Lx.ep s a f).1.map (fun t=>s.extract t.a t.e))<=s.size-a
 |d,a,f,hd=>by
  by_cases H:s.size<=a
  ·rw [Lx.dq s a f H];exact SW _
  ·cases d with
   |zero=>omega
   |succ d=>
   rw [Lx.bP s a f (by omega)]
   split
   ·have:=oh s d (a+1) (f+1) (by omega);omega
   ·split
    ·have:=oh s d (a+1) f (by omega);omega
    ·split
     ·exact SW _
     ·rename_i F
      split
      ·exact SW _
      ·rename_i G
       have I:Lx.ap s a (Lx.ak s a)=((Lx.ap s a (Lx.ak s a)).1,0):=VU rfl (by simpa using G);obtain ⟨C,J⟩:=Lx.da s a _ _ (by omega) rfl F I;have M:=oh s d (Lx.ap s a (Lx.ak s a)).1 0 (by omega);obtain ⟨p,hpp⟩:∃p,(Lx.ap s a (Lx.ak s a)).1=p:=⟨_,rfl⟩;rw [hpp] at C J M ⊢
       have O:(Lx.bS s (Lx.ak s a) a p f).e<=p:=by
        show (if Lx.ak s a=7 then Lx.aV s p else p)<=p
        split
        ·exact Lx.dG s p
        ·exact gt _
       have hsz:(s.extract (Lx.bS s (Lx.ak s a) a p f).a (Lx.bS s (Lx.ak s a) a p f).e).size<=p-a:=by
        rw [Lx.av s _ _ (by omega)];show (Lx.bS s (Lx.ak s a) a p f).e-a<=p-a;omega
       simp only [T1];show (s.extract _ _).size+Ek _<=_;omega
termination_by d=>d
theorem D5 {s:ByteArray}{E:List Ev}{a:Nat}{L:List Dc}(F:gS (.live [] 0) (gR s) E 0 a) (C:du sx E=some L) (Z:s.size<=262144) (Y:(gR s).length<=s.size):qD L<=2147483647/\∀d∈L,rt d=true:=by
 have J:cG 0 0 L=none:=by have h:=kD E kC C;rw [TB] at h;exact h
 have G:=Lw.tX L 0 0 J;have H:=D4 L G;have O:=zB E C;have Q:=Ip _ _ _ _ _ F fB;have M:uP (bR 0)=1:=rfl;have I:oJ L=(gR s).map (·.t):=by rw [vu E kC C];exact BB _ _ _ _ _ F fB
 have S:Ek ((gR s).map (·.t))<=s.size:=by
  have:=oh s _ 0 0 (gt _);show Ek (((Lx.cV s).1.map (Lx.tv s)).map (·.t))<=_;rw [Xa];have e:(fun t:Tv=>t.t) ∘ Lx.tv s=fun t=>s.extract t.a t.e:=rfl
  rw [e];exact this
 have U:f9 sx=0:=rfl;rw [I] at H;exact ⟨by omega,G⟩
end Go.Proofs.YtcjiapphbpiffaaGreatDoor
namespace Go.Proofs.YtcjiapphbpiffaaGreatDoor
open Go.RowKit
theorem MR:∀(l:List Tv) (K:List It) (n:Int) (E:List Ev) (a:Nat),gS (.live K n) l E 0 a->gu (.live K n)->∀e∈E,e.d=aB\/e.d∈l
 |[],K,n,E,a,hA,hg=>by
  obtain ⟨F,_⟩:=hA.end;cases F with
  |all hK=>intro e C;simp at C;subst C;exact .inl rfl
 |t :: l,K,n,E,a,hA,hg=>by
  rcases hA.inv with ⟨_,_,_,F,_⟩|⟨ev,st',S,k2,G,I,rfl,rfl⟩
  ·exact absurd rfl F
  ·obtain ⟨U,Y,Z,b4,b5,Q,ab,aa⟩:=cQ hg;have J:=(dU hg G).1
   have O:∀e∈bR n,e.d=aB:=by
    intro e C;unfold bR at C
    split at C
    ·simp at C;subst C;rfl
    ·simp at C
   have M:∀e∈ev,e.d=aB\/e.d=t:=by
    cases G with
    |note F=>
     intro e C
     rcases To.1 C with C|C
     ·exact .inl (O e C)
     ·simp at C;subst C;exact .inr rfl
    |yes F hR hkk hm=>
     obtain ⟨_,_,_,o,d4,_,d6,_⟩:=eM hR rfl U Y Z;intro e C;rw [d4] at C
     rcases To.1 C with C|C
     ·rcases To.1 C with C|C
      ·exact .inl (O e C)
      ·exact .inl (d6 e C).1
     ·simp at C;subst C;exact .inr rfl
   obtain ⟨K',H,rfl⟩:∃K' H,st'=.live K' H:=by
    cases G with
    |note _=>exact ⟨_,_,rfl⟩
    |yes _ _ _ _=>exact ⟨_,_,rfl⟩
   intro e C
   rcases To.1 C with C|C
   ·exact (M e C).imp id (fun h=>by rw [h];exact S4 ..)
   ·exact (MR l K' H S k2 I J e C).imp id (SZ _)
theorem Nh (s:ByteArray):∀t∈gR s,t.t.size<=s.size:=by
 intro t ht;obtain ⟨x,C,rfl⟩:=UV.1 ht;obtain ⟨_,h1,h2⟩:=Lx.gq s _ 0 0 (gt _) x C;show (s.extract x.a x.e).size<=_;rw [Lx.av s x.a x.e h2];omega
theorem zP (s:ByteArray):(gR s).length<=s.size:=by
 have C:∀(d a f:Nat),s.size-a<=d->(Lx.ep s a f).1.length<=s.size-a:=by
  intro d
  induction d with
  |zero=>intro a f h;rw [Lx.dq s a f (by omega)];exact SW _
  |succ d ih=>
   intro a f h
   by_cases H:s.size<=a
   ·rw [Lx.dq s a f H];exact SW _
   ·rw [Lx.bP s a f (by omega)]
    split
    ·have:=ih (a+1) (f+1) (by omega);omega
    ·split
     ·have:=ih (a+1) f (by omega);omega
     ·split
      ·exact SW _
      ·rename_i F
       split
       ·exact SW _
       ·rename_i G
        have I:Lx.ap s a (Lx.ak s a)=((Lx.ap s a (Lx.ak s a)).1,0):=VU rfl (by simpa using G);obtain ⟨J,M⟩:=Lx.da s a _ _ (by omega) rfl F I;have:=ih (Lx.ap s a (Lx.ak s a)).1 0 (by omega);simp only [List.length_cons];omega
 show ((Lx.cV s).1.map (Lx.tv s)).length<=_
 rw [UC];exact C _ 0 0 (gt _)
end Go.Proofs.YtcjiapphbpiffaaGreatDoor
namespace Go.Proofs.YtcjiapphbpiffaaGreatDoor
open Go.RowKit
open Lw (Dc bE rt cG dD fu iC jw ud qD)
variable {b:Bool}{l l':List Tv}
theorem Nz (h:Rl b l l'):l'.length=l.length:=by
 induction h with
 |nil=>rfl
 |cons _ _ _ _ ih=>simp [ih]
theorem PT (h:Rl b l l'):∀{j:Nat}{t t':Tv},l[j]?=some t->l'[j]?=some t'->t'.k=t.k/\t'.t=t.t/\(b=true\/0<j->gQ t->(t.f=0↔t'.f=0)):=by
 induction h with
 |nil=>intro j t t' h;simp at h
 |cons e1 e2 e3 _ ih=>
  intro j t t' C F;cases j with
  |zero=>
   simp at C F;subst C F;exact ⟨e1,e2,fun M G=>e3 (M.resolve_right (by omega)) G⟩
  |succ j=>
   obtain ⟨H,I,J⟩:=ih (j:=j) (by simpa using C) (by simpa using F);exact ⟨H,I,fun _ G=>J (.inl rfl) G⟩
theorem PP {d:Dc}(h:rt d=true):d.t.size<=9223372036854775807:=by
 cases Lw.mO h with
 |text t hq=>have:=(Lw.nG hq).2;show t.size<=_;omega
 |_=>show (bE).size<=_;exact SW _
structure TwF (s T:ByteArray):Prop where
 len:(gR T).length=(gR s).length
 at_:∀(j:Nat) t t',(gR s)[j]?=some t->(gR T)[j]?=some t'->t'.k=t.k/\t'.t=t.t/\(0<j->gQ t->(t.f=0↔t'.f=0))
structure Fd (s:ByteArray) (E:List Ev) (L:List Dc):Prop where
 sz:s.size<=262144
 sc:(Lx.cV s).2.1=0
 al:∃a,gS (.live [] 0) (gR s) E 0 a
 ly:du sx E=some L
abbrev wo (n:Int) (L:List Dc):ByteArray:=⟨(Lw.jZ n.toNat L).toArray⟩
end Go.Proofs.YtcjiapphbpiffaaGreatDoor
