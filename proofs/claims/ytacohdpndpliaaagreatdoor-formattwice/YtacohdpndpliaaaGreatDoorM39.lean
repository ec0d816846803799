import Derived.Test.YtacohdpndpliaaaGreatDoorM28
import Derived.Test.YtacohdpndpliaaaGreatDoorM38
set_option linter.all false
namespace Go.Proofs.YtacohdpndpliaaaGreatDoor
open Go.RowKit
open Lw (Dc bE rt cM dN fT j9 jD fx eJ qy wP)
variable {t:Tv}{l l':List Tv}{k:Nat}{n:Int}{E o:List Ev}{T s:ByteArray}{K:List It}{u:Option Tv}{R:Ro}{b:Bool}
theorem kn:∀(E:List Ev) {L0 L:List Dc}{s:Sy},eS L0 s->cQ s E=some L->cM 0 0 (L0++L)=none
 |[],L0,L,s,hS,h=>(yL hS h).1
 |e :: E,L0,L,s,hS,h=>by
  rw [gI] at h;cases hp:dC s e with
  |none=>rw [hp] at h;cases h
  |some x=>
   obtain ⟨s1,l⟩:=x;rw [hp] at h;simp only at h;obtain ⟨L1,h1,h2⟩:=QT.1 h;have:=kn E (yK hS hp).1 h1;rw [<-h2,<-Qz];exact this
theorem pc (n:Nat):∀(a b:List Dc) (ma mb:List Nat) (p:Lw.Pr),a.length=ma.length->Lw.puts n (a++b) (ma++mb) p=Lw.puts n b mb (Lw.puts n a ma p)
 |[],b,[],mb,p,_=>rfl
 |d :: a,b,m :: ma,mb,p,h=>pc n a b ma mb _ (by simpa using h)
def KJ:List (Nat × Nat)->List Tv->List UInt8
 |x :: xs,t :: l=>List.replicate x.1 10++(List.replicate x.2 32++(jD t.t++KJ xs l))
 |_,_=>[]
inductive Lg:List (List Dc)->List (Nat × Nat)->Prop
 |nil:Lg [] []
 |cons {G:List Dc} {x:Nat × Nat} {gs:List (List Dc)} {xs:List (Nat × Nat)}:GP G x.1 x.2->Lg gs xs->Lg (G :: gs) (x :: xs)
theorem D6 (n:Nat) {gs:List (List Dc)}{l:List Tv}{u:Option Tv}(hC:Kq u gs l):∀(ge:List Dc) (ms:List Nat) (p:Lw.Pr) (O:List UInt8),GI O [] 0 p->(∀t∈l,t.t.size≠0)->Np ge->ms.length=(eH gs l++ge).length ->
  ∃xs,Lg gs xs/\(Lw.puts n (eH gs l++ge) ms p).sk.out=O++(KJ xs l++[10]):=by
 induction hC with
 |nil=>
  intro ge ms p O hI _ hE hl;obtain ⟨a,h⟩:=GI.puts (n:=n) ge ms hI (fun d hd=>⟨(hE.fine d hd).1,(hE.fine d hd).2.1⟩) (by simpa [eH] using hl.symm);rw [Q0] at h;have h1:=h.hd hE.hd;have h2:a≠2:=fun e=>(hE.fine dE (h.e2 e)).2.2 rfl
  have ha:a=1:=by rcases h.st with ⟨x,_⟩|⟨x,_⟩|⟨x,_⟩ <;> omega
  subst ha;exact ⟨[],.nil,by have:=h.out;simpa [eH,KJ] using this⟩
 |cons c1 c2 ih=>
  rename_i u G t gs l
  intro ge ms p O hI hz hE hl;have hl':ms.length=G.length+1+(eH gs l++ge).length:=by rw [hl];simp [eH];omega
  obtain ⟨m1,hm1⟩:∃m1,ms.take G.length=m1:=⟨_,rfl⟩
  obtain ⟨m2,m3,hm2⟩:∃m2 m3,ms.drop G.length=m2 :: m3:=by
   cases hc:ms.drop G.length with
   |nil=>have:=QM List.length hc;rw [QU] at this;simp at this;omega
   |cons a b=>exact ⟨a,b,rfl⟩
  have e1:ms=m1++(m2 :: m3):=by rw [<-hm1,<-hm2,Rp]
  have l1:G.length=m1.length:=by rw [<-hm1,QX];omega
  have l3:m3.length=(eH gs l++ge).length:=by
   have:=QM List.length hm2;rw [QU] at this;simp only [List.length_cons] at this;omega
  have e2:eH (G :: gs) (t :: l)++ge=G++(dT t.t :: (eH gs l++ge)):=by simp [eH]
  rw [e1,e2,pc n G _ m1 _ p l1];obtain ⟨a,h1⟩:=GI.puts (n:=n) G m1 hI c1.fine l1;rw [Q0] at h1;obtain ⟨b,g1,g2⟩:=h1.text (n:=n) (m:=m2) (hz t (QA ..));obtain ⟨xs,x1,x2⟩:=ih ge m3 _ _ g2 (fun y hy=>hz y (QB _ hy)) hE l3;refine ⟨(a,b) :: xs,.cons g1 x1,?_⟩;show (Lw.puts n (eH gs l++ge) m3 (Lw.put n (dT t.t) m2 (Lw.puts n G m1 p))).sk.out=_;rw [x2];simp [KJ]
theorem Hu {p:Lw.Pr}(h1:p.sk=wP) (h2:p.en=false) {n m:Nat}{d:Dc}(hd:rt d=true) (hk:d.k≠1):(Lw.put n d m p).sk=wP/\(Lw.put n d m p).en=false:=by
 have hf:p.sk.fresh=true:=by rw [h1];rfl
 have hold:∀k,(p.hold k).sk=wP/\(p.hold k).en=false:=fun k=>by unfold Lw.Pr.hold;rw [IO hf];exact ⟨h1,h2⟩
 have endl:p.endl.sk=wP/\p.endl.en=false:=by unfold Lw.Pr.endl;rw [IO hf];exact ⟨h1,h2⟩
 cases Lw.mD hd with
 |text t hq=>exact absurd rfl hk
 |brk k hq=>
  show (Lw.Pr.sk (if p.brk n m then p.endl else p.hold k.toNat))=wP/\(Lw.Pr.en (if p.brk n m then p.endl else p.hold k.toNat))=false
  split
  ·exact endl
  ·exact hold _
 |beg k e hq=>exact ⟨h1,h2⟩
 |blank=>exact hold 1
 |hard=>exact endl
 |empty=>
  show (Lw.Pr.sk (if p.en then { p with sk:=p.sk.empty,en:=false } else p))=wP/\(Lw.Pr.en (if p.en then { p with sk:=p.sk.empty,en:=false } else p))=false
  rw [h2];exact ⟨h1,h2⟩
 | «end»=>exact ⟨h1,h2⟩
theorem Dr {n:Nat}:∀(P:List Dc) (ms:List Nat) {p:Lw.Pr},p.sk=wP->p.en=false->(∀d∈P,rt d=true/\d.k≠1)->P.length=ms.length->(Lw.puts n P ms p).sk=wP/\(Lw.puts n P ms p).en=false
 |[],[],p,h1,h2,_,_=>⟨h1,h2⟩
 |d :: P,m :: ms,p,h1,h2,hr,hl=>by
  obtain ⟨a,b⟩:=Hu h1 h2 (n:=n) (m:=m) (hr d (QA ..)).1 (hr d (QA ..)).2;exact Dr P ms a b (fun x hx=>hr x (QB _ hx)) (by simpa using hl)
theorem yX (n:Nat) {G:List Dc}{gs:List (List Dc)}{t:Tv}{l:List Tv}{ge:List Dc}{u:Option Tv}(hC:Kq u (G :: gs) (t :: l)) (hz:∀x∈t :: l,x.t.size≠0) (hE:Np ge) :
  ∃xs,Lg gs xs/\Lw.gH n (eH (G :: gs) (t :: l)++ge)=jD t.t++(KJ xs l++[10]):=by
 cases hC with
 |cons c1 c2=>
  obtain ⟨ms,hms⟩:∃ms,(eJ (eH (G :: gs) (t :: l)++ge)).1=ms:=⟨_,rfl⟩;have hl:ms.length=(eH (G :: gs) (t :: l)++ge).length:=by rw [<-hms];exact Lw.kE _
  have hl':ms.length=G.length+1+(eH gs l++ge).length:=by rw [hl];simp [eH];omega
  obtain ⟨m1,hm1⟩:∃m1,ms.take G.length=m1:=⟨_,rfl⟩
  obtain ⟨m2,m3,hm2⟩:∃m2 m3,ms.drop G.length=m2 :: m3:=by
   cases hc:ms.drop G.length with
   |nil=>have:=QM List.length hc;rw [QU] at this;simp at this;omega
   |cons a b=>exact ⟨a,b,rfl⟩
  have e1:ms=m1++(m2 :: m3):=by rw [<-hm1,<-hm2,Rp]
  have l1:G.length=m1.length:=by rw [<-hm1,QX];omega
  have l3:m3.length=(eH gs l++ge).length:=by
   have:=QM List.length hm2;rw [QU] at this;simp only [List.length_cons] at this;omega
  have e2:eH (G :: gs) (t :: l)++ge=G++(dT t.t :: (eH gs l++ge)):=by simp [eH]
  unfold Lw.gH;rw [hms,e1,e2,pc n G _ m1 _ qy l1];obtain ⟨s1,s2⟩:=Dr (n:=n) G m1 (p:=qy) rfl rfl c1.fine l1;have ht:=hz t (QA ..)
  have hI:GI (jD t.t) [] 0 (Lw.put n (dT t.t) m2 (Lw.puts n G m1 qy)):=by
   refine pH ?_ ?_ rfl
   ·show ((Lw.puts n G m1 qy).sk.text t.t).out=_
    rw [lJ ht,s1];rfl
   ·show ((Lw.puts n G m1 qy).sk.text t.t).fresh=false
    unfold fx.text;rw [Eq ht]
  obtain ⟨xs,x1,x2⟩:=D6 n c2 ge m3 _ _ hI (fun y hy=>hz y (QB _ hy)) hE l3;exact ⟨xs,x1,x2⟩
open Lw (Dc bE rt cM dN fT j9 jD)
open Lx (Tx O9 Ko CJ CH nv ay wS vw)
def lZ:List (Nat × Nat)->List Tv->ByteArray
 |x :: xs,t :: l=>nv 10 x.1++(nv 32 x.2++(t.t++lZ xs l))
 |_,_=>nv 10 1
def Kw:List (Nat × Nat)->List Tv->List (Nat × ByteArray × Nat)
 |x :: xs,t :: l=>(t.k.toNat,t.t,x.1) :: Kw xs l
 |_,_=>[]
theorem tW (x y:List UInt8):(⟨(x++y).toArray⟩:ByteArray)=⟨x.toArray⟩++⟨y.toArray⟩:=by
 apply UN
 simp [ByteArray.data_append]
theorem Gm (t:ByteArray):(⟨(jD t).toArray⟩:ByteArray)=t:=by
 apply UN
 show t.data.toList.toArray=t.data
 simp
theorem IE {gs:List (List Dc)}(h:Kq u gs l):∀{xs:List (Nat × Nat)},Lg gs xs->(⟨(KJ xs l++[10]).toArray⟩:ByteArray)=lZ xs l:=by
 induction h with
 |nil=>intro xs hx;cases hx;rfl
 |cons _ _ ih=>
  intro xs hx;cases hx with
  |cons g1 g2=>
   simp only [KJ,lZ,Qz];rw [tW,tW,tW,Gm,ih g2];rfl
theorem vH (h:0<T.size):∃x r,T.data.toList=x :: r/\x.toNat=ay T 0:=by
 have h':0<T.data.size:=h;cases hc:T.data.toList with
 |nil=>
  rw [<-Rh,hc] at h';exact absurd h' (by decide)
 |cons x r=>
  refine ⟨x,r,rfl,?_⟩;have e:(jD T).getD 0 0=x:=by show (T.data.toList).getD 0 0=x;rw [hc];rfl
  rw [<-jk T 0 h,e]
theorem iJ (h:t.k=(wS k T:Nat)):((k=1\/k=3)->wI t)/\(k≠1->t.k=(k:Nat)):=by
 unfold wS at h
 by_cases hc:k=1/\Lx.ky T=true
 ·rw [IO hc] at h;exact ⟨fun _=>.inr (.inl h),fun h1=>absurd hc.1 h1⟩
 ·rw [Eq hc] at h;refine ⟨fun h1=>?_,fun _=>h⟩
  rcases h1 with rfl|rfl
  ·exact .inl h
  ·exact .inr (.inr h)
def CF (t:Tv):Prop:=∃k,Tx k t.t/\t.k=(wS k t.t:Nat)
theorem C0 {x:UInt8}{n:Nat}(h:x.toNat=n) (hn:n<256):x=UInt8.ofNat n:=by
 apply Uh.1
 rw [h];simp [UInt8.toNat_ofNat];omega
theorem J9 {gs:List (List Dc)}(h:Kq u gs l):∀{xs:List (Nat × Nat)}{x:Tv}{ku:Nat},u=some x->Lg gs xs->(∀t∈l,CF t)->Tx ku x.t->x.k=(wS ku x.t:Nat)->Ko ku x.t (lZ xs l)/\CH (lZ xs l) 0 (Kw xs l):=by
 induction h with
 |nil=>
  intro xs x ku _ hx _ _ _;cases hx;exact ⟨Lx.kO (Lx.vO _ _) (by decide) rfl,Lx.Io 1 0⟩
 |cons c1 c2 ih=>
  rename_i u G t gs l
  intro xs x ku hu hx hT hX hk;cases hx with
  |cons g1 g2=>
   rename_i y xs
   obtain ⟨a,b⟩:=y;obtain ⟨kt,t1,t2⟩:=hT t (QA ..);obtain ⟨i1,i2⟩:=ih (xs:=xs) rfl g2 (fun z hz=>hT z (QB _ hz)) t1 t2;have hkn:t.k.toNat=wS kt t.t:=by rw [t2];rfl
   have hrd:CH (lZ ((a,b) :: xs) (t :: l)) 0 (Kw ((a,b) :: xs) (t :: l)):=by
    show CH (nv 10 a++(nv 32 b++(t.t++lZ xs l))) 0 ((t.k.toNat,t.t,a) :: Kw xs l)
    rw [hkn];refine Lx.In ?_;rw [QG];exact Lx.yQ t1 i1 i2
   refine ⟨?_,hrd⟩;subst hu;have hle:=g1.le;have pos:0<t.t.size:=t1.pos
   have hsz:0<(lZ ((a,b) :: xs) (t :: l)).size:=by
    show 0<(nv 10 a++(nv 32 b++(t.t++lZ xs l))).size
    simp only [Lx.br];omega
   have h7:ku=7->1<=a:=by
    intro e;have:x.k=7:=by have:=(iJ hk).2 (by omega);omega
    exact g1.hd (c1.l7 x rfl this)
   by_cases ha:1<=a
   ·refine Lx.kO (Lx.vO _ _) hsz ?_;show ay (nv 10 a++_) 0=10;rw [Lx.bN,IO (by rw [Lx.dj];omega),Lx.kA _ _ _ (by omega)];rfl
   ·have ha0:a=0:=by omega
    by_cases hb:1<=b
    ·refine Lx.kO (Lx.xU _ (fun e=>ha (h7 e))) hsz ?_;show ay (nv 10 a++(nv 32 b++_)) 0=32;rw [Lx.bN,Eq (by rw [Lx.dj];omega),Lx.dj,ha0,Lx.bN,IO (by rw [Lx.dj];omega),Lx.kA _ _ _ (by omega)];rfl
    ·have hb0:b=0:=by omega
     have e8:ay (lZ ((a,b) :: xs) (t :: l)) 0=ay t.t 0:=by
      show ay (nv 10 a++(nv 32 b++(t.t++lZ xs l))) 0=_
      rw [Lx.bN,Eq (by rw [Lx.dj];omega),Lx.dj,ha0,Lx.bN,Eq (by rw [Lx.dj];omega),Lx.dj,hb0,Lx.bN,IO pos]
     refine Lx.kO (c:=ay t.t 0) ?_ hsz e8;have hF:=Lx.uj t1;have hFx:=Lx.uj hX;have no:¬G.any bS=true:=fun e=>by rcases g1.gp e with h|h <;> omega
     by_cases h8:ku=8
     ·exact ⟨hF.nc,fun e=>by omega,fun e=>by omega,fun e=>by omega,fun e=>by omega⟩
     ·have hnx:¬gE x:=by
       rintro (e|e)
       ·have hk7:ku=7:=by
         by_cases h1:ku=1
         ·have:=(iJ hk).1 (.inl h1)
          rcases this with h|h|h <;> omega
         ·have:=(iJ hk).2 h1;omega
        exact ha (h7 hk7)
       ·by_cases h1:ku=1
        ·have:=(iJ hk).1 (.inl h1)
         rcases this with h|h|h <;> omega
        ·have:=(iJ hk).2 h1;omega
      have hnt:¬gE t:=fun e=>no (c1.lN x rfl hnx e)
      obtain ⟨w1,w2⟩:=(c1.lL x rfl hnx hnt).resolve_left no
      have hkt:kt≠7/\kt≠8:=by
       refine ⟨fun e=>hnt (.inl ?_),fun e=>hnt (.inr ?_)⟩
       ·have:=(iJ t2).2 (by omega);omega
       ·have:=(iJ t2).2 (by omega);omega
      refine Lx.Fg (fun e=>ha (h7 e)) hF hkt (fun ⟨p,q⟩=>w1 ⟨(iJ hk).1 p,(iJ t2).1 q⟩) ?_;intro e6 es est et6
      have hxs:yI x:=by
       refine ⟨by have:=(iJ hk).2 (by omega);omega,?_⟩;obtain ⟨z,r,ez,en⟩:=vH hX.pos
       have hr:r=[]:=by
        have:=QM List.length ez;have hl:x.t.data.toList.length=x.t.size:=Rh;rw [hl,es] at this;simp at this;exact this
       rw [ez,hr];rw [<-en] at est
       rcases est with h|h|h|h|h <;> (rw [C0 h (by decide)];decide)
      have hnd:¬Gl t:=fun h=>w2 ⟨hxs,h⟩
      have hk6:t.k=6:=by have:=(iJ t2).2 (by omega);omega
      obtain ⟨z,r,ez,en⟩:=vH pos
      have key:∀n,(n=61\/n=46\/n=47)->ay t.t 0≠n:=by
       intro n hn e;rw [<-en] at e;refine hnd ⟨hk6,?_⟩;rw [ez];show nh.contains z=true
       rcases hn with rfl|rfl|rfl <;> (rw [C0 e (by decide)];decide)
      exact ⟨key 61 (.inl rfl),key 46 (.inr (.inl rfl)),key 47 (.inr (.inr rfl))⟩
open Lx (Tx O9 Ko CJ CH nv ay wS vw Tk)
inductive Rl:Bool->List Tv->List Tv->Prop
 |nil {b:Bool}:Rl b [] []
 |cons {b:Bool} {t t':Tv} {l l':List Tv}:t'.k=t.k->t'.t=t.t->(b=true->gE t->(t.f=0↔t'.f=0))->Rl true l l'->Rl b (t :: l) (t' :: l')
theorem KB {x:Tk}{f:Nat}(h:vw T x=(t.k.toNat,t.t,f)) (hk:CF t):(Lx.tv T x).k=t.k/\(Lx.tv T x).t=t.t/\(Lx.tv T x).f=(f:Int):=by
 obtain ⟨k,_,e⟩:=hk;have h1:x.k=t.k.toNat:=QM Prod.fst h;have h2:T.extract x.a x.e=t.t:=QM (fun z=>z.2.1) h;have h3:x.f=f:=QM (fun z=>z.2.2) h;refine ⟨?_,h2,by show (x.f:Int)=_;rw [h3]⟩;show (x.k:Int)=_;rw [h1,e];rfl
theorem NS {gs:List (List Dc)}(h:Kq u gs l):∀{xs:List (Nat × Nat)},Lg gs xs->u≠none->(∀t∈l,CF t)->∀ts:List Tk,ts.map (vw T)=Kw xs l->Sm true gs l (ts.map (Lx.tv T))/\Rl true l (ts.map (Lx.tv T)):=by
 induction h with
 |nil=>
  intro xs hx _ _ ts ht;cases hx;have:ts=[]:=List.map_eq_nil_iff.1 ht;subst this;exact ⟨.nil,.nil⟩
 |cons c1 c2 ih=>
  rename_i u G t gs l
  intro xs hx hu hT ts ht;cases hx with
  |cons g1 g2=>
   rename_i y xs
   obtain ⟨a,b⟩:=y;cases ts with
   |nil=>cases ht
   |cons x ts=>
    rw [RU] at ht;have ht':vw T x :: ts.map (vw T)=(t.k.toNat,t.t,a) :: Kw xs l:=ht;injection ht' with h1 h2
    obtain ⟨e1,e2,e3⟩:=KB h1 (hT t (QA ..));obtain ⟨i1,i2⟩:=ih g2 (fun h=>by cases h) (fun z hz=>hT z (QB _ hz)) ts h2
    have hE:(2:Int)<=(a:Int)↔dE∈G:=by
     have hle:=g1.le;constructor
     ·intro h;exact g1.e2 (by have hle':a<=2:=hle;omega)
     ·intro h;have:a=2:=g1.he (c1.hb h);omega
    have hN:gE t->((a:Int)=0↔G.any bG=false):=by
     intro hn;constructor
     ·intro h;cases hc:G.any bG with
      |false=>rfl
      |true=>have h9:1<=a:=g1.hd hc;omega
     ·intro h
      apply Q1
      intro hne
      rcases g1.no (show 1<=a by omega) with h3|h3
      ·rw [h] at h3;cases h3
      ·rw [c1.nb hn] at h3;cases h3
    refine ⟨.cons e1 e2 (by rw [e3];omega) (fun _=>⟨by rw [e3];exact hE,fun hn=>by rw [e3];exact hN hn⟩) i1,.cons e1 e2 (fun _ hn=>?_) i2⟩;rw [e3,hN hn];exact c1.nf hn hu
theorem ox (s:ByteArray) (h0:(Lx.eM s).2.1=0) {E:List Ev}{a:Nat}(hA:gi (.live [] 0) (eG s) E 0 a) :
  ∃L,cQ oH E=some L/\cM 0 0 L=none/\∀n:Nat,(Lx.eM ⟨(Lw.gH n L).toArray⟩).2.1=0/\(∃E',gi (.live [] 0) (eG ⟨(Lw.gH n L).toArray⟩) E' 0 a/\cQ oH E'=some L)/\Rl false (eG s) (eG ⟨(Lw.gH n L).toArray⟩):=by
 have hT:=yH s h0;obtain ⟨gs,ge,r1,r2,r3,r4,r5⟩:=nj (eG s) [] 0 oH none E a hA Ei rfl hT (fun x t hx=>by cases hx);refine ⟨_,r2,(by have h:=kn E km r2;rw [Q0] at h;exact h),fun n=>?_⟩;have htok:∀t∈eG s,CF t:=fun t ht=>hT.tx t ht
 generalize hl:eG s=l at hA hT r1 r2 r3 r5 htok ⊢
 cases r3 with
 |nil=>
  exfalso
  obtain ⟨hc,_⟩:=hA.end;cases hc with
  |all hK=>cases hK
 |cons c1 c2=>
  rename_i G t gs l
  obtain ⟨kt,t1,t2⟩:=htok t (QA ..);have hsz:∀x∈t :: l,x.t.size≠0:=fun x hx=>by obtain ⟨k,h,_⟩:=htok x hx;have:=h.pos;omega
  obtain ⟨xs,x1,x2⟩:=yX n (.cons c1 c2) hsz r4;have htl:∀z∈l,CF z:=fun z hz=>htok z (QB _ hz)
  obtain ⟨b1,b2⟩:=J9 c2 rfl x1 htl t1 t2
  have eT:(⟨(Lw.gH n (eH (G :: gs) (t :: l)++ge)).toArray⟩:ByteArray)=t.t++lZ xs l:=by
   rw [x2,tW,Gm,IE c2 x1]
  rw [eT];obtain ⟨d1,d2⟩:=Lx.yQ (f:=0) t1 b1 b2;obtain ⟨T,hTT⟩:∃T,t.t++lZ xs l=T:=⟨_,rfl⟩;rw [hTT] at d1 d2 ⊢;have hsc:Lx.eM T=Lx.gU T 0 0:=rfl;have hd:(Lx.eM T).1.map (vw T)=(wS kt t.t,t.t,0) :: Kw xs l:=by rw [hsc];exact d2
  obtain ⟨x,ts,hts,hx,hts2⟩:∃x ts,(Lx.eM T).1=x :: ts/\vw T x=(wS kt t.t,t.t,0)/\ts.map (vw T)=Kw xs l:=by
   cases hc:(Lx.eM T).1 with
   |nil=>rw [hc] at hd;cases hd
   |cons x ts=>rw [hc,RU] at hd;injection hd with e1 e2;exact ⟨x,ts,rfl,e1,e2⟩
  have hkn:t.k.toNat=wS kt t.t:=by rw [t2];rfl
  rw [<-hkn] at hx;obtain ⟨e1,e2,e3⟩:=KB hx (htok t (QA ..));obtain ⟨i1,i2⟩:=NS c2 x1 (fun h=>by cases h) htl ts hts2;have hst:eG T=Lx.tv T x :: ts.map (Lx.tv T):=by show (Lx.eM T).1.map (Lx.tv T)=_;rw [hts];rfl
  rw [hst];refine ⟨by rw [hsc];exact d1,?_,.cons e1 e2 (fun h=>by cases h) i2⟩;obtain ⟨E',y1,y2⟩:=r5 (Lx.tv T x :: ts.map (Lx.tv T)) (.cons e1 e2 (by rw [e3];omega) (fun h=>by cases h) i1);exact ⟨E',y1,y2⟩
theorem LP (h:Ru t k K n E R):∀{k':Nat}{R':Ro},Ru t k' K n E R'->k=k'/\R=R':=by
 induction h with
 |nil=>intro k' R' h';cases h';exact ⟨rfl,rfl⟩
 |ref hs=>
  intro k' R' h';cases h' with
  |ref _=>exact ⟨rfl,rfl⟩
  |tk h2=>rw [hs] at h2;cases h2
  |go h2 _=>rw [hs] at h2;cases h2
 |tk hs=>
  intro k' R' h';cases h' with
  |ref h2=>rw [hs] at h2;cases h2
  |tk _=>exact ⟨rfl,rfl⟩
  |go h2 _=>rw [hs] at h2;cases h2
 |go hs _ ih=>
  intro k' R' h';cases h' with
  |ref h2=>rw [hs] at h2;cases h2
  |tk h2=>rw [hs] at h2;cases h2
  |go h2 h3=>
   rw [hs] at h2;cases h2;obtain ⟨rfl,rfl⟩:=ih h3;exact ⟨rfl,rfl⟩
theorem LO (h:Ru t k K n E R):∀{L:List It}{m:Int}{F:List Ev},R=.yes L m F->jS K->∃o,F=E++o/\o.length<=k:=by
 induction h with
 |nil=>intro L m F h;cases h
 |ref _=>intro L m F h;cases h
 |tk hs=>intro L m F h _;cases h;exact ⟨[],by simp,gt _⟩
 |go hs _ ih=>
  rename_i k i K n d E o r R _
  intro L m F h hw;have hi:=hw i (QA ..);obtain ⟨a1,a2,a3,a4⟩:=fF (K:=K) hs hi;obtain ⟨o2,b1,b2⟩:=ih h (fD a1 (fun j hj=>hw j (QB _ hj)));exact ⟨o++o2,by rw [b1,Qz],by rw [Or];omega⟩
def qB (o:List Ev):Nat:=o.countP (fun e=>decide (e.k=1))
theorem zo (a b:List Ev):qB (a++b)=qB a+qB b:=UA ..
theorem Em (a:List Ev):qB a<=a.length:=List.countP_le_length
theorem DH (h:Ru t k K n E R):∀{L:List It}{m:Int}{F:List Ev},R=.yes L m F->jS K->∃o,F=E++o/\qB o<=10:=by
 induction h with
 |nil=>intro L m F h;cases h
 |ref _=>intro L m F h;cases h
 |tk hs=>intro L m F h _;cases h;exact ⟨[],by simp,by simp [qB]⟩
 |go hs hr ih=>
  rename_i k i K n d E o r R
  intro L m F h hw;have hi:=hw i (QA ..);obtain ⟨a1,a2,a3,a4⟩:=fF (K:=K) hs hi
  have soon:∀c,c<=10->fA t c i->∃o,F=E++o/\qB o<=10:=by
   intro c hc hs2;obtain ⟨k',R',hk',hR'⟩:=hs2 K n E;have hall:=Ru.go hs hr;obtain ⟨e1,e2⟩:=LP hall hR';obtain ⟨o2,b1,b2⟩:=LO hall h hw;exact ⟨o2,b1,by have:=Em o2;omega⟩
  have pass:o=[]\/(∃e,o=[e]/\e.k≠1)->∃o,F=E++o/\qB o<=10:=by
   intro ho;obtain ⟨o2,b1,b2⟩:=ih h (fD a1 (fun j hj=>hw j (QB _ hj)));refine ⟨o++o2,by rw [b1,Qz],?_⟩;rw [zo]
   have:qB o=0:=by
    rcases ho with rfl|⟨e,rfl,he⟩
    ·rfl
    ·simp [qB,he]
   omega
  cases i with
  |fl x=>exact soon 8 (by omega) (qO t x)
  |lv a=>cases hs;exact pass (.inr ⟨_,rfl,by show (3:Int)≠1;decide⟩)
  |once p=>
   cases hp:Pk.pick t p with
   |none=>simp only [It.step,hp] at hs;cases hs;exact pass (.inl rfl)
   |some j=>exact soon 10 (by omega) (bY (r:=[]) (by simp [It.step,hp];exact ⟨rfl,rfl⟩) (jd hi hp))
  |again p=>
   cases hp:Pk.pick t p with
   |none=>simp only [It.step,hp] at hs;cases hs;exact pass (.inl rfl)
   |some j=>exact soon 10 (by omega) (bY (r:=[.again p]) (by simp [It.step,hp,GF];exact ⟨rfl,rfl⟩) (jd hi hp))
  |all rr=>
   obtain ⟨⟨kk,ts,rest,rfl⟩,_⟩:=hi;exact soon 1 (by omega) (bY (r:=rest.map It.fl) rfl (je t (.wd kk ts) aC 0))
theorem Ee (hB:oh o):∀{s s':List Int},cG s o=some s'->o.length+s'.length=s.length+2*qB o:=by
 induction o with
 |nil=>intro s s' h;cases h;simp [qB]
 |cons e o ih=>
  intro s s' h;have hB':oh o:=fun x hx=>hB x (QB _ hx)
  have hc:qB (e :: o)=qB o+(if e.k=1 then 1 else 0):=by unfold qB;rw [RH];simp
  rcases hB e (QA ..) with h1|h3
  ·simp only [cG,IO h1] at h;have:=ih hB' h;rw [hc,IO h1];simp only [List.length_cons] at this ⊢;omega
  ·have h1:¬e.k=1:=by omega
   simp only [cG,Eq h1,IO h3] at h;cases s with
   |nil=>cases h
   |cons a b=>
    simp only at h
    split at h
    ·have:=ih hB' h;rw [hc,Eq h1];simp only [List.length_cons] at this ⊢;omega
    ·cases h
theorem Au:∀(l:List Tv) (K:List It) (n:Int) (E:List Ev) (a:Nat),gi (.live K n) l E 0 a->fY (.live K n)->E.length<=(bJ K).length+23*l.length+1
 |[],K,n,E,a,hA,hg=>by
  obtain ⟨hc,_⟩:=hA.end;cases hc with
  |all hK=>show 1<=_;omega
 |t :: l,K,n,E,a,hA,hg=>by
  rcases hA.inv with ⟨_,_,_,hc,_⟩|⟨ev,st',E2,k2,hp,hA2,rfl,rfl⟩
  ·exact absurd rfl hc
  ·obtain ⟨s,hs⟩:∃s:Sy,s.ks=bJ K:=⟨⟨(bJ K).map (fun k=>⟨k,0,false⟩),[],none,false,false,false⟩,by unfold Sy.ks;rw [U2];exact List.map_id _⟩;obtain ⟨o,e,K',n',rfl,rfl,hg',hB,hn,hpl,hlen,rfl⟩:=yU hg hs hp;have h2:=Au l K' n' E2 k2 hA2 hg';have h3:=Ee hB hpl;rw [hs] at h3
   have h4:qB o<=11:=by
    obtain ⟨b1,b2,b3,b4,b5,hbot,hbn,hbe⟩:=cJ hg;have hbo:qB (bK n)<=1:=QC (Em _) hbe
    generalize hee:(⟨if (t.k == 7 || t.k == 8)=true then 4 else 2,0,t⟩:Ev)=e0 at hp
    generalize hev:o++[e0]=ev0 at hp
    cases hp with
    |note hc=>
     have:o=bK n:=(Tn hev rfl).1;rw [this];omega
    |yes hc hR hkk hm=>
     obtain ⟨o2,c1,c2⟩:=DH hR rfl b1;have:=(Tn hev rfl).1;rw [this,c1,zo];omega
   rw [Or,Or];simp only [List.length_cons,List.length_nil] at h2 ⊢;omega
def jQ (n:Int) (o:List Ev):Nat:=o.countP (fun e=>decide (e.k=1) && decide (e.n=n))
theorem Al (n:Int) (a b:List Ev):jQ n (a++b)=jQ n a+jQ n b:=UA ..
def vI (m:M):List It->Nat
 |.fl (.mt m') :: _=>if m'=m then 1 else 0
 |_=>0
theorem oQ {m1 m2:M}{n1 n2:Int}(h12:m1≠m2) (hn:n1≠n2) (h1:∀t,∃r,M.row t m1=.op n1 (.fl (.mt m2) :: r)) (h2:∀t,∃r,M.row t m2=.op n2 r) (ho:∀t m r,M.row t m=.op n1 r->m=m1)
  {t:Tv} {k:Nat} {K:List It} {n:Int} {E:List Ev} {R:Ro} (h:Ru t k K n E R):∀{L:List It} {m:Int} {F:List Ev},R=.yes L m F->∃o,F=E++o/\jQ n1 o+vI m2 K<=jQ n2 o:=by
 induction h with
 |nil=>intro L m F h;cases h
 |ref _=>intro L m F h;cases h
 |tk hs=>
  rename_i i K n E
  intro L m F h;cases h;refine ⟨[],by simp,?_⟩
  have:vI m2 (i :: K)=0:=by
   unfold vI
   split
   ·rename_i m' _ e
    injection e with e1 _
    subst e1
    exfalso
    simp only [It.step,Fl.step] at hs;cases hrow:M.row t m' <;> rw [hrow] at hs <;> cases hs
   ·rfl
  rw [this];exact gt _
 |go hs _ ih=>
  rename_i k i K n d E o r R _
  intro L m F h;obtain ⟨o2,b1,b2⟩:=ih h;refine ⟨o++o2,by rw [b1,Qz],?_⟩;rw [Al,Al];cases i with
  |fl x=>
   have hm:∃m,x=.mt m:=by
    cases x with
    |mt m=>exact ⟨m,rfl⟩
    |_=>simp only [It.step,Fl.step] at hs;split at hs <;> cases hs
   obtain ⟨mm,rfl⟩:=hm;simp only [It.step,Fl.step] at hs;have hh:vI m2 (It.fl (.mt mm) :: K)=if mm=m2 then 1 else 0:=rfl
   rw [hh];cases hrow:M.row t mm with
   |ref=>rw [hrow] at hs;cases hs
   |ex r'=>
    rw [hrow] at hs;cases hs;have:mm≠m2:=fun e=>by subst e;obtain ⟨r3,h3⟩:=h2 t;rw [hrow] at h3;cases h3
    rw [Eq this];show 0+jQ n1 o2+0<=0+jQ n2 o2;omega
   |op nd r'=>
    rw [hrow] at hs;cases hs
    have c:∀q:Int,jQ q [⟨1,nd,aB⟩]=if nd=q then 1 else 0:=by
     intro q;unfold jQ
     by_cases e:nd=q <;> simp [e]
    rw [c,c]
    by_cases e1:mm=m1
    ·subst e1;obtain ⟨r3,h3⟩:=h1 t;rw [hrow] at h3;injection h3 with h4 h5
     subst h4 h5;have hx:vI m2 ((.fl (.mt m2) :: r3++[.lv nd])++K)=1:=by show (if m2=m2 then 1 else 0)=1;rw [IO rfl]
     rw [hx] at b2;rw [IO rfl,Eq hn,Eq h12];omega
    ·have e2:nd≠n1:=fun e=>e1 (ho t mm r' (by rw [hrow,e]))
     rw [Eq e2]
     by_cases e3:mm=m2
     ·subst e3;obtain ⟨r3,h3⟩:=h2 t;rw [hrow] at h3;injection h3 with h4 h5
      subst h4;rw [IO rfl,IO rfl];omega
     ·rw [Eq e3];omega
  |lv a=>cases hs;show 0+jQ n1 o2+0<=0+jQ n2 o2;omega
  |once p=>cases hs;show 0+jQ n1 o2+0<=0+jQ n2 o2;omega
  |again p=>cases hs;show 0+jQ n1 o2+0<=0+jQ n2 o2;omega
  |all rr=>cases hs;show 0+jQ n1 o2+0<=0+jQ n2 o2;omega
theorem oT {m1:M}(hn:n=21/\m1=.expr\/n=22/\m1=.rel\/n=23/\m1=.sum) (t:Tv) (m:M) (r:List It) (h:M.row t m=.op n r):m=m1:=by
 rcases hn with ⟨rfl,rfl⟩|⟨rfl,rfl⟩|⟨rfl,rfl⟩ <;> cases m <;> first|rfl|(simp only [M.row,cg] at h;repeat' (split at h));all_goals first|(cases h;done)|rfl
theorem Ij {L:List It}{m:Int}{F:List Ev}(h:Ru t k K n E (.yes L m F)) (hw:jS K):∃o,F=E++o/\jQ 21 o<=2:=by
 obtain ⟨o,e1,c1⟩:=DH h rfl hw;obtain ⟨o1,f1,g1⟩:=oQ (m1:=.expr) (m2:=.rel) (n1:=21) (n2:=22) (by decide) (by decide) (fun t=>⟨_,rfl⟩) (fun t=>⟨_,rfl⟩) (oT (.inl ⟨rfl,rfl⟩)) h rfl;obtain ⟨o2,f2,g2⟩:=oQ (m1:=.rel) (m2:=.sum) (n1:=22) (n2:=23) (by decide) (by decide) (fun t=>⟨_,rfl⟩) (fun t=>⟨_,rfl⟩) (oT (.inr (.inl ⟨rfl,rfl⟩))) h rfl;obtain ⟨o3,f3,g3⟩:=oQ (m1:=.sum) (m2:=.term) (n1:=23) (n2:=24) (by decide) (by decide) (fun t=>⟨_,rfl⟩) (fun t=>⟨_,rfl⟩) (oT (.inr (.inr ⟨rfl,rfl⟩))) h rfl;have q1:=RJ (e1.symm.trans f1);have q2:=RJ (e1.symm.trans f2);have q3:=RJ (e1.symm.trans f3);subst q1 q2 q3;refine ⟨o,e1,?_⟩
 have key:jQ 21 o+jQ 22 o+jQ 23 o+jQ 24 o<=qB o:=by
  clear e1 c1 f1 g1 f2 g2 f3 g3
  induction o with
  |nil=>exact gt _
  |cons e o ih=>
   have hc:∀n:Int,jQ n (e :: o)=jQ n o+(if e.k=1/\e.n=n then 1 else 0):=by
    intro n;unfold jQ;rw [RH];simp
   have ho:qB (e :: o)=qB o+(if e.k=1 then 1 else 0):=by unfold qB;rw [RH];simp
   rw [hc,hc,hc,hc,ho]
   by_cases hk:e.k=1
   ·simp only [hk,true_and,SQ]
    repeat' split
    all_goals omega
   ·simp only [hk,false_and,RM];omega
 omega
open Lw (Dc bE rt cM dN fT j9 jD ud qI)
def Pf (d:Dc):Bool:=!(decide (d.k=6) || decide (d.k=7))
def fu (l:List Dc):Nat:=l.countP Pf
theorem du (a b:List Dc):fu (a++b)=fu a+fu b:=UA ..
theorem gG (d:Dc) (b:List Dc):fu (d :: b)=fu b+(if Pf d=true then 1 else 0):=RH ..
theorem iZ (d:Dc):fu [d]<=1:=by rw [gG];split <;> simp [fu]
def Pz.nb (p:Pz):Nat:=match p with|.S=>1|.B0=>1|.B1=>1|.H=>1|_=>0
def KI (l:List Pz):Nat:=(l.map Pz.nb).sum
theorem OM (s:Sy) (p:Pz):fu (s.aw p).ws<=fu s.ws+p.nb:=by
 rw [rJ,du]
 have:fu (jC p s.ns)<=p.nb:=by
  unfold jC
  split
  ·exact Qw _
  ·cases p <;> exact gt _
 omega
theorem ym (l:List Pz):∀s:Sy,fu (s.aws l).ws<=fu s.ws+KI l:=by
 induction l with
 |nil=>intro s;exact gt _
 |cons p l ih=>
  intro s;rw [cf];have h1:=ih (s.aw p);have h2:=OM s p;have h3:KI (p :: l)=p.nb+KI l:=rfl;omega
theorem KS (a:Fx):KI a.pz<=1:=by cases a <;> decide
def mG (l:List Nd):Nat:=l.countP (fun n=>decide (n.k=1))
def fP (s:Sy):Nat:=fu s.ws+mG s.ns
theorem IL (p:Pz) (l:List Nd):mG (ig p l)=mG l:=by
 cases l with
 |nil=>rfl
 |cons n r=>simp only [ig];split <;> (unfold mG;rw [RH,RH])
theorem IK (l:List Pz):∀s:Sy,mG (s.aws l).ns=mG s.ns:=by
 induction l with
 |nil=>intro s;rfl
 |cons p l ih=>intro s;rw [cf,ih];exact IL p s.ns
theorem sC (s:Sy) (l:List Pz):fP (s.aws l)<=fP s+KI l:=by
 unfold fP;rw [IK];have:=ym l s;omega
theorem xE (s:Sy):fP s.exprIn<=fP s+1:=by
 unfold Sy.exprIn
 split
 ·omega
 ·rename_i n r e
  have hp:mG (⟨n.k,(if n.k=19 then n.b+1 else n.b),true⟩ :: r)=mG s.ns:=by rw [e];unfold mG;rw [RH,RH]
  show fu (if n.k=19 then s.aws [.S,.I 3] else if n.k=31/\n.s=false then s.aws [.B0] else s).ws+mG (⟨n.k,(if n.k=19 then n.b+1 else n.b),true⟩ :: r)<=_
  rw [hp];unfold fP
  split
  ·have:=ym [.S,.I 3] s;have:KI [.S,.I 3]=1:=rfl;omega
  ·split
   ·have:=ym [.B0] s;have:KI [.B0]=1:=rfl;omega
   ·omega
def NK (k:Int):Nat:=(if k=21 then 1 else 0)+(if k=1 then 1 else 0)
theorem Bt (s:Sy) (k:Int):fP (s.opens k)<=fP s+NK k:=by
 obtain ⟨s1,hs1⟩:∃s1,(if k=21 then s.exprIn else s)=s1:=⟨_,rfl⟩
 have h1:fP s1<=fP s+(if k=21 then 1 else 0):=by
  rw [<-hs1];split
  ·exact xE s
  ·omega
 have h2:fP (s1.mark k)=fP s1:=by unfold Sy.mark;split <;> rfl
 have e:s.opens k=Sy.aws { (s1.mark k) with ns:=⟨k,0,false⟩ :: (s1.mark k).ns } (qA k):=by unfold Sy.opens;simp only;rw [hs1]
 rw [e];have h3:=sC { (s1.mark k) with ns:=⟨k,0,false⟩ :: (s1.mark k).ns } (qA k);have h4:KI (qA k)=0:=by unfold qA;split;rfl;split <;> rfl
 have h5:fP ({ (s1.mark k) with ns:=⟨k,0,false⟩ :: (s1.mark k).ns }:Sy)=fP (s1.mark k)+(if k=1 then 1 else 0):=by
  show fu (s1.mark k).ws+mG (⟨k,0,false⟩ :: (s1.mark k).ns)=fu (s1.mark k).ws+mG (s1.mark k).ns+_
  unfold mG;rw [RH];simp;omega
 unfold NK;omega
theorem xD (s:Sy):fP s.leaves<=fP s:=by
 unfold Sy.leaves
 split
 ·omega
 ·rename_i n r e
  show fu (s.ws++List.replicate n.b dX++(if n.k=1 then [dH] else []))+mG r<=_
  have hp:mG s.ns=mG r+(if n.k=1 then 1 else 0):=by rw [e];unfold mG;rw [RH];simp
  have hr:fu (List.replicate n.b dX)=0:=by unfold fu;rw [List.countP_replicate];rfl
  unfold fP;rw [du,du,hr,hp]
  split
  ·have:=iZ dH;omega
  ·show _+0+fu []+_<=_;have:fu []=0:=rfl;omega
theorem Bs (s:Sy) (a:Fx) (f:Int):fP (s.ready a f)<=fP s+4:=by
 have h1:=sC s a.pz;have hf:=KS a
 have e1:fP ((s.aws a.pz).emp f)<=fP (s.aws a.pz)+1:=by
  unfold Sy.emp
  split
  ·omega
  ·split
   ·omega
   ·rename_i m _ _
    show fu ((s.aws a.pz).ws.take m++dE :: (s.aws a.pz).ws.drop m)+mG (s.aws a.pz).ns<=_
    have hx:fu (s.aws a.pz).ws=fu ((s.aws a.pz).ws.take m)+fu ((s.aws a.pz).ws.drop m):=by rw [<-du,Rp]
    unfold fP;rw [du,gG,hx]
    split <;> omega
 have e2:∀u:Sy,fP u.endl<=fP u+1:=fun u=>by
  unfold Sy.endl
  split
  ·show fu (dH :: u.ws)+mG u.ns<=_;unfold fP;rw [gG];split <;> omega
  ·omega
 have e3:∀u:Sy,fP u.part<=fP u+1:=fun u=>by
  unfold Sy.part
  split
  ·show fu (u.ws++[dS])+mG u.ns<=_;unfold fP;rw [du];have:=iZ dS;omega
  ·omega
 unfold Sy.ready;have:=e3 ((s.aws a.pz).emp f).endl;have:=e2 ((s.aws a.pz).emp f);omega
theorem Ec (s:Sy) (t:Tv):fu (s.leaf t).2+fP (s.leaf t).1<=fP s+6:=by
 unfold Sy.leaf
 split
 ·have h0:fu ([]:List Dc)=0:=rfl;show fu []+fP s<=fP s+6;omega
 ·rename_i n r e
  have h1:=Bs s (aG n t).a t.f;have h2:=sC ⟨(s.ready (aG n t).a t.f).ns,[],none,true,false,false⟩ (aG n t).b.pz;have h3:=KS (aG n t).b
  have h4:fP ⟨(s.ready (aG n t).a t.f).ns,[],none,true,false,false⟩=mG (s.ready (aG n t).a t.f).ns:=by
   have h0:fu ([]:List Dc)=0:=rfl;show fu []+mG (s.ready (aG n t).a t.f).ns=mG (s.ready (aG n t).a t.f).ns;omega
  show fu ((s.ready (aG n t).a t.f).ws++[dT t.t])+fP (Sy.aws ⟨(s.ready (aG n t).a t.f).ns,[],none,true,false,false⟩ (aG n t).b.pz)<=_
  rw [du];have:=iZ (dT t.t);have h5:fP (s.ready (aG n t).a t.f)=fu (s.ready (aG n t).a t.f).ws+mG (s.ready (aG n t).a t.f).ns:=rfl;omega
theorem Ea (s:Sy) (t:Tv):fu (s.note t).2+fP (s.note t).1<=fP s+6:=by
 have hx:fu s.ws=fu (s.ws.takeWhile bf)+fu (s.ws.dropWhile bf):=by rw [<-du,SL]
 have a1:=iZ (dT t.t);have a2:=iZ dS;unfold Sy.note;simp only
 split
 ·show fu (s.ws.takeWhile bf++[dS,dT t.t])+(fu (s.ws.dropWhile bf)+mG s.ns)<=_
  unfold fP;rw [du,show ([dS,dT t.t]:List Dc)=[dS]++[dT t.t] from rfl,du,hx];omega
 ·show fu (s.ws.takeWhile bf++dH :: ((if _ then [dE] else [])++[dT t.t]))+(fu (s.ws.dropWhile bf)+mG s.ns)<=_
  unfold fP;rw [du,gG,du,hx];have a3:=iZ dE;have a4:fu ([]:List Dc)=0:=rfl
  split <;> split <;> omega
def Nx (e:Ev):Nat:=if e.k=1 then NK e.n else if e.k=3 then 0 else 6
def ue (E:List Ev):Nat:=(E.map Nx).sum
theorem mZ (a b:List Ev):ue (a++b)=ue a+ue b:=by unfold ue;rw [R8,U4]
theorem II {s s':Sy}{e:Ev}{l:List Dc}(h:dC s e=some (s',l)):fu l+fP s'<=fP s+Nx e:=by
 unfold dC at h
 split at h
 ·have h':=Q7 h;obtain ⟨e1,e2⟩:(s.step e).1=s'/\(s.step e).2=l:=⟨by rw [h'],by rw [h']⟩;rw [<-e1,<-e2];unfold Sy.step Nx
  split
  ·have h1:=Bt s e.n;have h0:fu ([]:List Dc)=0:=rfl;show fu []+fP (s.opens e.n)<=fP s+NK e.n;omega
  ·split
   ·have h1:=xD s;have h0:fu ([]:List Dc)=0:=rfl;show fu []+fP s.leaves<=fP s+0;omega
   ·split
    ·exact Ec s e.d
    ·exact Ea s e.d
 ·cases h
theorem yv:∀(E:List Ev) {s:Sy}{L:List Dc},cQ s E=some L->fu L<=fP s+ue E+1
 |[],s,L,h=>by
  have h':ik s=some L:=h;unfold ik at h'
  split at h'
  ·cases h';unfold Sy.endl;unfold fP
   split
   ·show fu (dH :: s.ws)<=_;rw [gG];split <;> omega
   ·omega
  ·cases h'
 |e :: E,s,L,h=>by
  rw [gI] at h;cases hp:dC s e with
  |none=>rw [hp] at h;cases h
  |some x=>
   obtain ⟨s1,l⟩:=x;rw [hp] at h;simp only at h;obtain ⟨L1,h1,h2⟩:=QT.1 h;have a1:=yv E h1;have a2:=II hp;have a3:ue (e :: E)=Nx e+ue E:=rfl;rw [<-h2,du];omega
theorem G4 (hB:oh o):ue o<=jQ 21 o+jQ 1 o:=by
 induction o with
 |nil=>exact gt _
 |cons e o ih=>
  have h1:=ih (fun x hx=>hB x (QB _ hx))
  have hc:∀n:Int,jQ n (e :: o)=jQ n o+(if e.k=1/\e.n=n then 1 else 0):=by
   intro n;unfold jQ;rw [RH];simp
  have hw:ue (e :: o)=Nx e+ue o:=rfl;rw [hw,hc,hc];unfold Nx NK
  rcases hB e (QA ..) with hk|hk
  ·simp only [hk,true_and,SQ]
   repeat' split
   all_goals omega
  ·rw [Eq (by omega),IO hk]
   repeat' split
   all_goals omega
theorem Gy:∀(l:List Tv) (K:List It) (n:Int) (E:List Ev) (a:Nat),gi (.live K n) l E 0 a->fY (.live K n)->ue E<=8*l.length+ue (bK n)
 |[],K,n,E,a,hA,hg=>by
  obtain ⟨hc,_⟩:=hA.end;cases hc with
  |all hK=>exact Qw _
 |t :: l,K,n,E,a,hA,hg=>by
  rcases hA.inv with ⟨_,_,_,hc,_⟩|⟨ev,st',E2,k2,hp,hA2,rfl,rfl⟩
  ·exact absurd rfl hc
  ·obtain ⟨b1,b2,b3,b4,b5,hbot,hbn,hbe⟩:=cJ hg;have hgk:=(dJ hg hp).1
   have key:ue ev<=8+ue (bK n)/\∃K' n',st'=.live K' n'/\n'≠0:=by
    cases hp with
    |note hc=>
     rw [mZ];have:ue [⟨4,0,t⟩]=6:=rfl;refine ⟨by omega,_,_,rfl,?_⟩;unfold gh
     split
     ·decide
     ·rename_i hn;simpa using hn
    |yes hc hR hkk hm=>
     obtain ⟨_,_,d3,o,d4,_,d6,_⟩:=eD hR rfl b1 b2 b3;have hbl:=iW (oR hR rfl hbot);obtain ⟨o2,f1,f2⟩:=Ij hR b1;rw [d4] at f1;have q:=RJ f1;subst q;have hBo:oh o:=fun e he=>(d6 e he).2.1
     have h1:=G4 hBo
     have h2:jQ 1 o=0:=by
      unfold jQ;rw [List.countP_eq_zero];intro e he;have:=(d6 e he).2.2;simp;exact this
     rw [d4,mZ,mZ];have:ue [⟨2,0,t⟩]=6:=rfl;exact ⟨by omega,_,_,rfl,by omega⟩
   obtain ⟨k1,K',n',rfl,hn'⟩:=key;have h2:=Gy l K' n' E2 k2 hA2 hgk
   have h3:ue (bK n')=0:=by
    unfold bK;rw [Eq (by simpa using hn')];rfl
   rw [mZ,List.length_cons];omega
def Di (l:List ByteArray):Nat:=(l.map (·.size)).sum
theorem Ho (a b:List ByteArray):Di (a++b)=Di a+Di b:=by unfold Di;rw [R8,U4]
theorem CY:∀(L:List Dc),(∀d∈L,rt d=true)->qI L<=1001*fu L+2*Di (ow L)
 |[],_=>by simp [qI,fu,ow,Di]
 |d :: L,h=>by
  have ih:=CY L (fun x hx=>h x (QB _ hx));have e1:qI (d :: L)=ud d+qI L:=rfl;have e2:ow (d :: L)=ow [d]++ow L:=by rw [<-kf];rfl
  rw [e1,gG,e2,Ho]
  have key:ud d<=(if Pf d=true then 1001 else 0)+2*Di (ow [d]):=by
   cases Lw.mD (h d (QA ..)) with
   |text t hq=>
    have:ow [⟨1,t,0,0,false⟩]=[t]:=rfl;rw [this];show 2*t.size+1001<=1001+2*(t.size+0);omega
   |brk n hq=>exact gt _
   |beg n e hq=>exact gt _
   |blank=>exact gt _
   |hard=>exact gt _
   |empty=>exact gt _
   | «end»=>exact gt _
  split at key <;> rename_i hc
  ·rw [IO hc];omega
  ·rw [Eq hc];omega
theorem uC:∀(E:List Ev) {L0 L:List Dc}{s:Sy},eS L0 s->cQ s E=some L->ow L=E.flatMap ML
 |[],L0,L,s,hS,h=>(yL hS h).2
 |e :: E,L0,L,s,hS,h=>by
  rw [gI] at h;cases hp:dC s e with
  |none=>rw [hp] at h;cases h
  |some x=>
   obtain ⟨s1,l⟩:=x;rw [hp] at h;simp only at h;obtain ⟨L1,h1,h2⟩:=QT.1 h;obtain ⟨a1,a2,_⟩:=yK hS hp;rw [<-h2,kf,a2,uC E a1 h1];rfl
theorem J6 (hB:oh o):o.flatMap ML=[]:=by
 induction o with
 |nil=>rfl
 |cons e o ih=>
  rw [List.flatMap_cons,ih (fun x hx=>hB x (QB _ hx)),Q6];unfold ML
  rcases hB e (QA ..) with h|h
  ·rw [IO h]
  ·rw [Eq (by omega),IO h]
theorem At:∀(l:List Tv) (K:List It) (n:Int) (E:List Ev) (a:Nat),gi (.live K n) l E 0 a->fY (.live K n)->E.flatMap ML=l.map (·.t)
 |[],K,n,E,a,hA,hg=>by
  obtain ⟨hc,_⟩:=hA.end;cases hc with
  |all hK=>rfl
 |t :: l,K,n,E,a,hA,hg=>by
  rcases hA.inv with ⟨_,_,_,hc,_⟩|⟨ev,st',E2,k2,hp,hA2,rfl,rfl⟩
  ·exact absurd rfl hc
  ·obtain ⟨s,hs⟩:∃s:Sy,s.ks=bJ K:=⟨⟨(bJ K).map (fun k=>⟨k,0,false⟩),[],none,false,false,false⟩,by unfold Sy.ks;rw [U2];exact List.map_id _⟩;obtain ⟨o,e,K',n',rfl,rfl,hg',hB,hn,hpl,hlen,rfl⟩:=yU hg hs hp;rw [Ue,Ue,J6 hB,At l K' n' E2 k2 hA2 hg']
   have:ML ⟨if (t.k == 7 || t.k == 8)=true then 4 else 2,0,t⟩=[t.t]:=by
    by_cases hc:(t.k == 7 || t.k == 8)=true
    ·rw [IO hc];rfl
    ·rw [Eq hc];rfl
   rw [List.flatMap_cons,this];rfl
theorem nT (s:ByteArray):∀(d a f:Nat),s.size-a<=d->Di ((Lx.gU s a f).1.map (fun t=>s.extract t.a t.e))<=s.size-a
 |d,a,f,hd=>by
  by_cases ha:s.size<=a
  ·rw [Lx.eE s a f ha];exact Qw _
  ·cases d with
   |zero=>omega
   |succ d=>
   rw [Lx.co s a f (by omega)]
   split
   ·have:=nT s d (a+1) (f+1) (by omega);omega
   ·split
    ·have:=nT s d (a+1) f (by omega);omega
    ·split
     ·exact Qw _
     ·rename_i h3
      split
      ·exact Qw _
      ·rename_i h4
       have he:Lx.ap s a (Lx.ak s a)=((Lx.ap s a (Lx.ak s a)).1,0):=Ut rfl (by simpa using h4);obtain ⟨hap,hp⟩:=Lx.et s a _ _ (by omega) rfl h3 he;have ih:=nT s d (Lx.ap s a (Lx.ak s a)).1 0 (by omega);obtain ⟨p,hpp⟩:∃p,(Lx.ap s a (Lx.ak s a)).1=p:=⟨_,rfl⟩;rw [hpp] at hap hp ih ⊢
       have hte:(Lx.cy s (Lx.ak s a) a p f).e<=p:=by
        show (if Lx.ak s a=7 then Lx.aZ s p else p)<=p
        split
        ·exact Lx.fO s p
        ·exact gt _
       have hsz:(s.extract (Lx.cy s (Lx.ak s a) a p f).a (Lx.cy s (Lx.ak s a) a p f).e).size<=p-a:=by
        rw [Lx.az s _ _ (by omega)];show (Lx.cy s (Lx.ak s a) a p f).e-a<=p-a;omega
       simp only [RU];show (s.extract _ _).size+Di _<=_;omega
termination_by d=>d
theorem CZ {a:Nat}{L:List Dc}(hA:gi (.live [] 0) (eG s) E 0 a) (hL:cQ oH E=some L) (hs:s.size<=262144) (hl:(eG s).length<=s.size):qI L<=2147483647/\∀d∈L,rt d=true:=by
 have hf:cM 0 0 L=none:=by have h:=kn E km hL;rw [Q0] at h;exact h
 have hr:=Lw.s9 L 0 0 hf;have h1:=CY L hr;have h2:=yv E hL;have h3:=Gy _ _ _ _ _ hA fk;have h31:ue (bK 0)=1:=rfl;have h4:ow L=(eG s).map (·.t):=by rw [uC E km hL];exact At _ _ _ _ _ hA fk
 have h5:Di ((eG s).map (·.t))<=s.size:=by
  have:=nT s _ 0 0 (gt _);show Di (((Lx.eM s).1.map (Lx.tv s)).map (·.t))<=_;rw [U2];have e:(fun t:Tv=>t.t) ∘ Lx.tv s=fun t=>s.extract t.a t.e:=rfl
  rw [e];exact this
 have h6:fP oH=0:=rfl;rw [h4] at h1;exact ⟨by omega,hr⟩
theorem Lb:∀(l:List Tv) (K:List It) (n:Int) (E:List Ev) (a:Nat),gi (.live K n) l E 0 a->fY (.live K n)->∀e∈E,e.d=aB\/e.d∈l
 |[],K,n,E,a,hA,hg=>by
  obtain ⟨hc,_⟩:=hA.end;cases hc with
  |all hK=>intro e he;simp at he;subst he;exact .inl rfl
 |t :: l,K,n,E,a,hA,hg=>by
  rcases hA.inv with ⟨_,_,_,hc,_⟩|⟨ev,st',E2,k2,hp,hA2,rfl,rfl⟩
  ·exact absurd rfl hc
  ·obtain ⟨b1,b2,b3,b4,b5,hbot,hbn,hbe⟩:=cJ hg;have hgk:=(dJ hg hp).1
   have hB:∀e∈bK n,e.d=aB:=by
    intro e he;unfold bK at he
    split at he
    ·simp at he;subst he;rfl
    ·simp at he
   have key:∀e∈ev,e.d=aB\/e.d=t:=by
    cases hp with
    |note hc=>
     intro e he
     rcases QO.1 he with he|he
     ·exact .inl (hB e he)
     ·simp at he;subst he;exact .inr rfl
    |yes hc hR hkk hm=>
     obtain ⟨_,_,_,o,d4,_,d6,_⟩:=eD hR rfl b1 b2 b3;intro e he;rw [d4] at he
     rcases QO.1 he with he|he
     ·rcases QO.1 he with he|he
      ·exact .inl (hB e he)
      ·exact .inl (d6 e he).1
     ·simp at he;subst he;exact .inr rfl
   obtain ⟨K',n',rfl⟩:∃K' n',st'=.live K' n':=by
    cases hp with
    |note _=>exact ⟨_,_,rfl⟩
    |yes _ _ _ _=>exact ⟨_,_,rfl⟩
   intro e he
   rcases QO.1 he with he|he
   ·exact (key e he).imp id (fun h=>by rw [h];exact QA ..)
   ·exact (Lb l K' n' E2 k2 hA2 hgk e he).imp id (QB _)
theorem LF (s:ByteArray):∀t∈eG s,t.t.size<=s.size:=by
 intro t ht;obtain ⟨x,hx,rfl⟩:=SY.1 ht;obtain ⟨_,h1,h2⟩:=Lx.iO s _ 0 0 (gt _) x hx;show (s.extract x.a x.e).size<=_;rw [Lx.az s x.a x.e h2];omega
theorem na (s:ByteArray):(eG s).length<=s.size:=by
 have key:∀(d a f:Nat),s.size-a<=d->(Lx.gU s a f).1.length<=s.size-a:=by
  intro d
  induction d with
  |zero=>intro a f h;rw [Lx.eE s a f (by omega)];exact Qw _
  |succ d ih=>
   intro a f h
   by_cases ha:s.size<=a
   ·rw [Lx.eE s a f ha];exact Qw _
   ·rw [Lx.co s a f (by omega)]
    split
    ·have:=ih (a+1) (f+1) (by omega);omega
    ·split
     ·have:=ih (a+1) f (by omega);omega
     ·split
      ·exact Qw _
      ·rename_i h3
       split
       ·exact Qw _
       ·rename_i h4
        have he:Lx.ap s a (Lx.ak s a)=((Lx.ap s a (Lx.ak s a)).1,0):=Ut rfl (by simpa using h4);obtain ⟨hap,hp⟩:=Lx.et s a _ _ (by omega) rfl h3 he;have:=ih (Lx.ap s a (Lx.ak s a)).1 0 (by omega);simp only [List.length_cons];omega
 show ((Lx.eM s).1.map (Lx.tv s)).length<=_
 rw [Ui];exact key _ 0 0 (gt _)
theorem xa (h0:(Lx.eM s).2.1=0) {E:List Ev}{a:Nat}(hA:gi (.live [] 0) (eG s) E 0 a) {L:List Dc}(hL:cQ oH E=some L) (n:Nat):∃(y:UInt8) (m:List UInt8),Lw.gH n L=y :: (m++[10])/\y.toNat≠10:=by
 have hT:=yH s h0;obtain ⟨gs,ge,r1,r2,r3,r4,r5⟩:=nj (eG s) [] 0 oH none E a hA Ei rfl hT (fun x t hx=>by cases hx);have htok:∀t∈eG s,CF t:=fun t ht=>hT.tx t ht
 have hLL:=Q7 (hL.symm.trans r2)
 generalize hl:eG s=l at hA hT r1 r2 r3 r5 htok hLL
 cases r3 with
 |nil=>
  exfalso
  obtain ⟨hc,_⟩:=hA.end;cases hc with
  |all hK=>cases hK
 |cons c1 c2=>
  rename_i G t gs l
  obtain ⟨kt,t1,t2⟩:=htok t (QA ..);have hsz:∀x∈t :: l,x.t.size≠0:=fun x hx=>by obtain ⟨k,h,_⟩:=htok x hx;have:=h.pos;omega
  obtain ⟨xs,x1,x2⟩:=yX n (.cons c1 c2) hsz r4;rw [hLL,x2];have hp:=t1.pos;have he:=(Lx.yx t1).1;have hb:=jk t.t 0 hp;cases hc:jD t.t with
  |nil=>
   have:(jD t.t).length=t.t.size:=Lw.lO t.t;rw [hc] at this;simp at this;omega
  |cons y m=>
   rw [hc] at hb;refine ⟨y,m++KJ xs l,by simp,?_⟩;have hb':y.toNat=Lx.ay t.t 0:=by simpa using hb
   rw [hb'];unfold Lx.GN at he;omega
theorem LX (h:Rl b l l'):l'.length=l.length:=by
 induction h with
 |nil=>rfl
 |cons _ _ _ _ ih=>simp [ih]
theorem NZ (h:Rl b l l'):∀{j:Nat}{t t':Tv},l[j]?=some t->l'[j]?=some t'->t'.k=t.k/\t'.t=t.t/\(b=true\/0<j->gE t->(t.f=0↔t'.f=0)):=by
 induction h with
 |nil=>intro j t t' h;simp at h
 |cons e1 e2 e3 _ ih=>
  intro j t t' h1 h2;cases j with
  |zero=>
   simp at h1 h2;subst h1 h2;exact ⟨e1,e2,fun hb hn=>e3 (hb.resolve_right (by omega)) hn⟩
  |succ j=>
   obtain ⟨a1,a2,a3⟩:=ih (j:=j) (by simpa using h1) (by simpa using h2);exact ⟨a1,a2,fun _ hn=>a3 (.inl rfl) hn⟩
theorem NY {d:Dc}(h:rt d=true):d.t.size<=9223372036854775807:=by
 cases Lw.mD h with
 |text t hq=>have:=(Lw.np hq).2;show t.size<=_;omega
 |_=>show (bE).size<=_;exact Qw _
structure Qr (s T:ByteArray):Prop where
 len:(eG T).length=(eG s).length
 at_:∀(j:Nat) t t',(eG s)[j]?=some t->(eG T)[j]?=some t'->t'.k=t.k/\t'.t=t.t/\(0<j->gE t->(t.f=0↔t'.f=0))
structure Fd (s:ByteArray) (E:List Ev) (L:List Dc):Prop where
 sz:s.size<=262144
 sc:(Lx.eM s).2.1=0
 al:∃a,gi (.live [] 0) (eG s) E 0 a
 ly:cQ oH E=some L
abbrev wo (n:Int) (L:List Dc):ByteArray:=⟨(Lw.gH n.toNat L).toArray⟩
end Go.Proofs.YtacohdpndpliaaaGreatDoor
