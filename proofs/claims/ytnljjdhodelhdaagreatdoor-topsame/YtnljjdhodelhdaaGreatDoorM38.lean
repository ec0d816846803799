import Derived.Test.YtnljjdhodelhdaaGreatDoorM27
import Derived.Test.YtnljjdhodelhdaaGreatDoorM37
set_option linter.unusedVariables false
set_option linter.unusedSimpArgs false
namespace Go.Proofs.YtnljjdhodelhdaaGreatDoor
open Go.RowKit
open Lw (Dc bE rt cB dq fi ik jm fB eJ qt wT)
theorem kl:∀(E:List Ev) {L0 L:List Dc}{s:Sy},eS L0 s->cO s E=some L->cB 0 0 (L0++L)=none
 |[],L0,L,s,hS,h=>(yS hS h).1
 |e :: E,L0,L,s,hS,h=>by
  rw [gH] at h;cases hp:dF s e with
  |none=>rw [hp] at h;cases h
  |some x=>
   obtain ⟨s1,l⟩:=x;rw [hp] at h;simp only at h;obtain ⟨L1,h1,h2⟩:=Rv.1 h;have:=kl E (yR hS hp).1 h1;rw [<-h2,<-QW];exact this
theorem oT (n:Nat):∀(a b:List Dc) (ma mb:List Nat) (p:Lw.Pr),a.length=ma.length->Lw.puts n (a++b) (ma++mb) p=Lw.puts n b mb (Lw.puts n a ma p)
 |[],b,[],mb,p,_=>rfl
 |d :: a,b,m :: ma,mb,p,h=>oT n a b ma mb _ (by simpa using h)
def Mx:List (Nat × Nat)->List Tv->List UInt8
 |x :: xs,t :: l=>List.replicate x.1 10++(List.replicate x.2 32++(jm t.t++Mx xs l))
 |_,_=>[]
inductive LJ:List (List Dc)->List (Nat × Nat)->Prop
 |nil:LJ [] []
 |cons {G:List Dc} {x:Nat × Nat} {gs:List (List Dc)} {xs:List (Nat × Nat)}:GP G x.1 x.2->LJ gs xs->LJ (G :: gs) (x :: xs)
theorem Ef (n:Nat) {gs:List (List Dc)}{l:List Tv}{u:Option Tv}(hC:KL u gs l):∀(ge:List Dc) (ms:List Nat) (p:Lw.Pr) (O:List UInt8),GI O [] 0 p->(∀t∈l,t.t.size≠0)->NQ ge->ms.length=(eI gs l++ge).length ->
  ∃xs,LJ gs xs/\(Lw.puts n (eI gs l++ge) ms p).sk.out=O++(Mx xs l++[10]):=by
 induction hC with
 |nil=>
  intro ge ms p O hI _ hE hl;obtain ⟨a,h⟩:=GI.puts (n:=n) ge ms hI (fun d hd=>⟨(hE.fine d hd).1,(hE.fine d hd).2.1⟩) (by simpa [eI] using hl.symm);rw [RG] at h;have h1:=h.hd hE.hd;have h2:a≠2:=fun e=>(hE.fine dE (h.e2 e)).2.2 rfl
  have ha:a=1:=by rcases h.st with ⟨x,_⟩|⟨x,_⟩|⟨x,_⟩ <;> omega
  subst ha;exact ⟨[],.nil,by have:=h.out;simpa [eI,Mx] using this⟩
 |cons c1 c2 ih=>
  rename_i u G t gs l
  intro ge ms p O hI hz hE hl;have hl':ms.length=G.length+1+(eI gs l++ge).length:=by rw [hl];simp [eI];omega
  obtain ⟨m1,hm1⟩:∃m1,ms.take G.length=m1:=⟨_,rfl⟩
  obtain ⟨m2,m3,hm2⟩:∃m2 m3,ms.drop G.length=m2 :: m3:=by
   cases hc:ms.drop G.length with
   |nil=>have:=Rj List.length hc;rw [Rx] at this;simp at this;omega
   |cons a b=>exact ⟨a,b,rfl⟩
  have e1:ms=m1++(m2 :: m3):=by rw [<-hm1,<-hm2,RY]
  have l1:G.length=m1.length:=by rw [<-hm1,Ry];omega
  have l3:m3.length=(eI gs l++ge).length:=by
   have:=Rj List.length hm2;rw [Rx] at this;simp only [List.length_cons] at this;omega
  have e2:eI (G :: gs) (t :: l)++ge=G++(dT t.t :: (eI gs l++ge)):=by simp [eI]
  rw [e1,e2,oT n G _ m1 _ p l1];obtain ⟨a,h1⟩:=GI.puts (n:=n) G m1 hI c1.fine l1;rw [RG] at h1;obtain ⟨b,g1,g2⟩:=h1.text (n:=n) (m:=m2) (hz t (QY ..));obtain ⟨xs,x1,x2⟩:=ih ge m3 _ _ g2 (fun y hy=>hz y (QZ _ hy)) hE l3;refine ⟨(a,b) :: xs,.cons g1 x1,?_⟩;show (Lw.puts n (eI gs l++ge) m3 (Lw.put n (dT t.t) m2 (Lw.puts n G m1 p))).sk.out=_;rw [x2];simp [Mx]
theorem Ik {p:Lw.Pr}(h1:p.sk=wT) (h2:p.en=false) {n m:Nat}{d:Dc}(hd:rt d=true) (hk:d.k≠1):(Lw.put n d m p).sk=wT/\(Lw.put n d m p).en=false:=by
 have hf:p.sk.fresh=true:=by rw [h1];rfl
 have hold:∀k,(p.hold k).sk=wT/\(p.hold k).en=false:=fun k=>by unfold Lw.Pr.hold;rw [IO hf];exact ⟨h1,h2⟩
 have endl:p.endl.sk=wT/\p.endl.en=false:=by unfold Lw.Pr.endl;rw [IO hf];exact ⟨h1,h2⟩
 cases Lw.mu hd with
 |text t hq=>exact absurd rfl hk
 |brk k hq=>
  show (Lw.Pr.sk (if p.brk n m then p.endl else p.hold k.toNat))=wT/\(Lw.Pr.en (if p.brk n m then p.endl else p.hold k.toNat))=false
  split
  ·exact endl
  ·exact hold _
 |beg k e hq=>exact ⟨h1,h2⟩
 |blank=>exact hold 1
 |hard=>exact endl
 |empty=>
  show (Lw.Pr.sk (if p.en then { p with sk:=p.sk.empty,en:=false } else p))=wT/\(Lw.Pr.en (if p.en then { p with sk:=p.sk.empty,en:=false } else p))=false
  rw [h2];exact ⟨h1,h2⟩
 | «end»=>exact ⟨h1,h2⟩
theorem Dy {n:Nat}:∀(P:List Dc) (ms:List Nat) {p:Lw.Pr},p.sk=wT->p.en=false->(∀d∈P,rt d=true/\d.k≠1)->P.length=ms.length->(Lw.puts n P ms p).sk=wT/\(Lw.puts n P ms p).en=false
 |[],[],p,h1,h2,_,_=>⟨h1,h2⟩
 |d :: P,m :: ms,p,h1,h2,hr,hl=>by
  obtain ⟨a,b⟩:=Ik h1 h2 (n:=n) (m:=m) (hr d (QY ..)).1 (hr d (QY ..)).2;exact Dy P ms a b (fun x hx=>hr x (QZ _ hx)) (by simpa using hl)
theorem IY (n:Nat) {G:List Dc}{gs:List (List Dc)}{t:Tv}{l:List Tv}{ge:List Dc}{u:Option Tv}(hC:KL u (G :: gs) (t :: l)) (hz:∀x∈t :: l,x.t.size≠0) (hE:NQ ge) :
  ∃xs,LJ gs xs/\Lw.im n (eI (G :: gs) (t :: l)++ge)=jm t.t++(Mx xs l++[10]):=by
 cases hC with
 |cons c1 c2=>
  obtain ⟨ms,hms⟩:∃ms,(eJ (eI (G :: gs) (t :: l)++ge)).1=ms:=⟨_,rfl⟩;have hl:ms.length=(eI (G :: gs) (t :: l)++ge).length:=by rw [<-hms];exact Lw.kC _
  have hl':ms.length=G.length+1+(eI gs l++ge).length:=by rw [hl];simp [eI];omega
  obtain ⟨m1,hm1⟩:∃m1,ms.take G.length=m1:=⟨_,rfl⟩
  obtain ⟨m2,m3,hm2⟩:∃m2 m3,ms.drop G.length=m2 :: m3:=by
   cases hc:ms.drop G.length with
   |nil=>have:=Rj List.length hc;rw [Rx] at this;simp at this;omega
   |cons a b=>exact ⟨a,b,rfl⟩
  have e1:ms=m1++(m2 :: m3):=by rw [<-hm1,<-hm2,RY]
  have l1:G.length=m1.length:=by rw [<-hm1,Ry];omega
  have l3:m3.length=(eI gs l++ge).length:=by
   have:=Rj List.length hm2;rw [Rx] at this;simp only [List.length_cons] at this;omega
  have e2:eI (G :: gs) (t :: l)++ge=G++(dT t.t :: (eI gs l++ge)):=by simp [eI]
  unfold Lw.im;rw [hms,e1,e2,oT n G _ m1 _ qt l1];obtain ⟨s1,s2⟩:=Dy (n:=n) G m1 (p:=qt) rfl rfl c1.fine l1;have ht:=hz t (QY ..)
  have hI:GI (jm t.t) [] 0 (Lw.put n (dT t.t) m2 (Lw.puts n G m1 qt)):=by
   refine py ?_ ?_ rfl
   ·show ((Lw.puts n G m1 qt).sk.text t.t).out=_
    rw [lG ht,s1];rfl
   ·show ((Lw.puts n G m1 qt).sk.text t.t).fresh=false
    unfold fB.text;rw [Eq ht]
  obtain ⟨xs,x1,x2⟩:=Ef n c2 ge m3 _ _ hI (fun y hy=>hz y (QZ _ hy)) hE l3;exact ⟨xs,x1,x2⟩
end Go.Proofs.YtnljjdhodelhdaaGreatDoor
namespace Go.Proofs.YtnljjdhodelhdaaGreatDoor
open Go.RowKit
open Lw (Dc bE rt cB dq fi ik jm)
open Lx (Tx PK KK CT CQ nh ay wW vw)
variable {l:List Tv}{u:Option Tv}{T:ByteArray}
def lV:List (Nat × Nat)->List Tv->ByteArray
 |x :: xs,t :: l=>nh 10 x.1++(nh 32 x.2++(t.t++lV xs l))
 |_,_=>nh 10 1
def KO:List (Nat × Nat)->List Tv->List (Nat × ByteArray × Nat)
 |x :: xs,t :: l=>(t.k.toNat,t.t,x.1) :: KO xs l
 |_,_=>[]
theorem tU (x y:List UInt8):(⟨(x++y).toArray⟩:ByteArray)=⟨x.toArray⟩++⟨y.toArray⟩:=by
 apply Vf
 simp [ByteArray.data_append]
theorem GC (t:ByteArray):(⟨(jm t).toArray⟩:ByteArray)=t:=by
 apply Vf
 show t.data.toList.toArray=t.data
 simp
theorem IW {gs:List (List Dc)}(h:KL u gs l):∀{xs:List (Nat × Nat)},LJ gs xs->(⟨(Mx xs l++[10]).toArray⟩:ByteArray)=lV xs l:=by
 induction h with
 |nil=>intro xs hx;cases hx;rfl
 |cons _ _ ih=>
  intro xs hx;cases hx with
  |cons g1 g2=>
   simp only [Mx,lV,QW];rw [tU,tU,tU,GC,ih g2];rfl
theorem vL (h:0<T.size):∃x r,T.data.toList=x :: r/\x.toNat=ay T 0:=by
 have h':0<T.data.size:=h;cases hc:T.data.toList with
 |nil=>
  rw [<-RU,hc] at h';exact absurd h' (by decide)
 |cons x r=>
  refine ⟨x,r,rfl,?_⟩;have e:(jm T).getD 0 0=x:=by show (T.data.toList).getD 0 0=x;rw [hc];rfl
  rw [<-sK T 0 h,e]
theorem iI {k:Nat}{t:Tv}(h:t.k=(wW k T:Nat)):((k=1\/k=3)->wM t)/\(k≠1->t.k=(k:Nat)):=by
 unfold wW at h
 by_cases hc:k=1/\Lx.ky T=true
 ·rw [IO hc] at h;exact ⟨fun _=>.inr (.inl h),fun h1=>absurd hc.1 h1⟩
 ·rw [Eq hc] at h;refine ⟨fun h1=>?_,fun _=>h⟩
  rcases h1 with rfl|rfl
  ·exact .inl h
  ·exact .inr (.inr h)
def GX (t:Tv):Prop:=∃k,Tx k t.t/\t.k=(wW k t.t:Nat)
theorem Db {x:UInt8}{n:Nat}(h:x.toNat=n) (hn:n<256):x=UInt8.ofNat n:=by
 apply UL.1
 rw [h];simp [UInt8.toNat_ofNat];omega
theorem Kw {gs:List (List Dc)}(h:KL u gs l):∀{xs:List (Nat × Nat)}{x:Tv}{ku:Nat},u=some x->LJ gs xs->(∀t∈l,GX t)->Tx ku x.t->x.k=(wW ku x.t:Nat)->KK ku x.t (lV xs l)/\CQ (lV xs l) 0 (KO xs l):=by
 induction h with
 |nil=>
  intro xs x ku _ hx _ _ _;cases hx;exact ⟨Lx.kL (Lx.vS _ _) (by decide) rfl,Lx.IG 1 0⟩
 |cons c1 c2 ih=>
  rename_i u G t gs l
  intro xs x ku hu hx hT hX hk;cases hx with
  |cons g1 g2=>
   rename_i y xs
   obtain ⟨a,b⟩:=y;obtain ⟨kt,t1,t2⟩:=hT t (QY ..);obtain ⟨i1,i2⟩:=ih (xs:=xs) rfl g2 (fun z hz=>hT z (QZ _ hz)) t1 t2;have hkn:t.k.toNat=wW kt t.t:=by rw [t2];rfl
   have hrd:CQ (lV ((a,b) :: xs) (t :: l)) 0 (KO ((a,b) :: xs) (t :: l)):=by
    show CQ (nh 10 a++(nh 32 b++(t.t++lV xs l))) 0 ((t.k.toNat,t.t,a) :: KO xs l)
    rw [hkn];refine Lx.IF ?_;rw [Q8];exact Lx.yZ t1 i1 i2
   refine ⟨?_,hrd⟩;subst hu;have hle:=g1.le;have pos:0<t.t.size:=t1.pos
   have hsz:0<(lV ((a,b) :: xs) (t :: l)).size:=by
    show 0<(nh 10 a++(nh 32 b++(t.t++lV xs l))).size
    simp only [Lx.bw];omega
   have h7:ku=7->1<=a:=by
    intro e;have:x.k=7:=by have:=(iI hk).2 (by omega);omega
    exact g1.hd (c1.l7 x rfl this)
   by_cases ha:1<=a
   ·refine Lx.kL (Lx.vS _ _) hsz ?_;show ay (nh 10 a++_) 0=10;rw [Lx.bQ,IO (by rw [Lx.dh];omega),Lx.kw _ _ _ (by omega)];rfl
   ·have ha0:a=0:=by omega
    by_cases hb:1<=b
    ·refine Lx.kL (Lx.x8 _ (fun e=>ha (h7 e))) hsz ?_;show ay (nh 10 a++(nh 32 b++_)) 0=32;rw [Lx.bQ,Eq (by rw [Lx.dh];omega),Lx.dh,ha0,Lx.bQ,IO (by rw [Lx.dh];omega),Lx.kw _ _ _ (by omega)];rfl
    ·have hb0:b=0:=by omega
     have e8:ay (lV ((a,b) :: xs) (t :: l)) 0=ay t.t 0:=by
      show ay (nh 10 a++(nh 32 b++(t.t++lV xs l))) 0=_
      rw [Lx.bQ,Eq (by rw [Lx.dh];omega),Lx.dh,ha0,Lx.bQ,Eq (by rw [Lx.dh];omega),Lx.dh,hb0,Lx.bQ,IO pos]
     refine Lx.kL (c:=ay t.t 0) ?_ hsz e8;have hF:=Lx.uh t1;have hFx:=Lx.uh hX;have no:¬G.any bS=true:=fun e=>by rcases g1.gp e with h|h <;> omega
     by_cases h8:ku=8
     ·exact ⟨hF.nc,fun e=>by omega,fun e=>by omega,fun e=>by omega,fun e=>by omega⟩
     ·have hnx:¬fX x:=by
       rintro (e|e)
       ·have hk7:ku=7:=by
         by_cases h1:ku=1
         ·have:=(iI hk).1 (.inl h1)
          rcases this with h|h|h <;> omega
         ·have:=(iI hk).2 h1;omega
        exact ha (h7 hk7)
       ·by_cases h1:ku=1
        ·have:=(iI hk).1 (.inl h1)
         rcases this with h|h|h <;> omega
        ·have:=(iI hk).2 h1;omega
      have hnt:¬fX t:=fun e=>no (c1.lN x rfl hnx e)
      obtain ⟨w1,w2⟩:=(c1.lL x rfl hnx hnt).resolve_left no
      have hkt:kt≠7/\kt≠8:=by
       refine ⟨fun e=>hnt (.inl ?_),fun e=>hnt (.inr ?_)⟩
       ·have:=(iI t2).2 (by omega);omega
       ·have:=(iI t2).2 (by omega);omega
      refine Lx.Ft (fun e=>ha (h7 e)) hF hkt (fun ⟨p,q⟩=>w1 ⟨(iI hk).1 p,(iI t2).1 q⟩) ?_;intro e6 es est et6
      have hxs:yP x:=by
       refine ⟨by have:=(iI hk).2 (by omega);omega,?_⟩;obtain ⟨z,r,ez,en⟩:=vL hX.pos
       have hr:r=[]:=by
        have:=Rj List.length ez;have hl:x.t.data.toList.length=x.t.size:=RU;rw [hl,es] at this;simp at this;exact this
       rw [ez,hr];rw [<-en] at est
       rcases est with h|h|h|h|h <;> (rw [Db h (by decide)];decide)
      have hnd:¬GB t:=fun h=>w2 ⟨hxs,h⟩
      have hk6:t.k=6:=by have:=(iI t2).2 (by omega);omega
      obtain ⟨z,r,ez,en⟩:=vL pos
      have key:∀n,(n=61\/n=46\/n=47)->ay t.t 0≠n:=by
       intro n hn e;rw [<-en] at e;refine hnd ⟨hk6,?_⟩;rw [ez];show mY.contains z=true
       rcases hn with rfl|rfl|rfl <;> (rw [Db e (by decide)];decide)
      exact ⟨key 61 (.inl rfl),key 46 (.inr (.inl rfl)),key 47 (.inr (.inr rfl))⟩
end Go.Proofs.YtnljjdhodelhdaaGreatDoor
namespace Go.Proofs.YtnljjdhodelhdaaGreatDoor
open Go.RowKit
open Lw (Dc bE rt cB dq fi ik jm)
open Lx (Tx PK KK CT CQ nh ay wW vw Tk)
variable {T:ByteArray}
inductive Rl:Bool->List Tv->List Tv->Prop
 |nil {b:Bool}:Rl b [] []
 |cons {b:Bool} {t t':Tv} {l l':List Tv}:t'.k=t.k->t'.t=t.t->(b=true->fX t->(t.f=0↔t'.f=0))->Rl true l l'->Rl b (t :: l) (t' :: l')
theorem KR {x:Tk}{t:Tv}{f:Nat}(h:vw T x=(t.k.toNat,t.t,f)) (hk:GX t):(Lx.tv T x).k=t.k/\(Lx.tv T x).t=t.t/\(Lx.tv T x).f=(f:Int):=by
 obtain ⟨k,_,e⟩:=hk;have h1:x.k=t.k.toNat:=Rj Prod.fst h;have h2:T.extract x.a x.e=t.t:=Rj (fun z=>z.2.1) h;have h3:x.f=f:=Rj (fun z=>z.2.2) h;refine ⟨?_,h2,by show (x.f:Int)=_;rw [h3]⟩;show (x.k:Int)=_;rw [h1,e];rfl
theorem Oi {gs:List (List Dc)}{l:List Tv}{u:Option Tv}(h:KL u gs l):∀{xs:List (Nat × Nat)},LJ gs xs->u≠none->(∀t∈l,GX t)->∀ts:List Tk,ts.map (vw T)=KO xs l->Sm true gs l (ts.map (Lx.tv T))/\Rl true l (ts.map (Lx.tv T)):=by
 induction h with
 |nil=>
  intro xs hx _ _ ts ht;cases hx;have:ts=[]:=List.map_eq_nil_iff.1 ht;subst this;exact ⟨.nil,.nil⟩
 |cons c1 c2 ih=>
  rename_i u G t gs l
  intro xs hx hu hT ts ht;cases hx with
  |cons g1 g2=>
   rename_i y xs
   obtain ⟨a,b⟩:=y;cases ts with
   |nil=>cases ht
   |cons x ts=>
    rw [Sc] at ht;have ht':vw T x :: ts.map (vw T)=(t.k.toNat,t.t,a) :: KO xs l:=ht;injection ht' with h1 h2
    obtain ⟨e1,e2,e3⟩:=KR h1 (hT t (QY ..));obtain ⟨i1,i2⟩:=ih g2 (fun h=>by cases h) (fun z hz=>hT z (QZ _ hz)) ts h2
    have hE:(2:Int)<=(a:Int)↔dE∈G:=by
     have hle:=g1.le;constructor
     ·intro h;exact g1.e2 (by have hle':a<=2:=hle;omega)
     ·intro h;have:a=2:=g1.he (c1.hb h);omega
    have hN:fX t->((a:Int)=0↔G.any bH=false):=by
     intro hn;constructor
     ·intro h;cases hc:G.any bH with
      |false=>rfl
      |true=>have h9:1<=a:=g1.hd hc;omega
     ·intro h
      apply RH
      intro hne
      rcases g1.no (show 1<=a by omega) with h3|h3
      ·rw [h] at h3;cases h3
      ·rw [c1.nb hn] at h3;cases h3
    refine ⟨.cons e1 e2 (by rw [e3];omega) (fun _=>⟨by rw [e3];exact hE,fun hn=>by rw [e3];exact hN hn⟩) i1,.cons e1 e2 (fun _ hn=>?_) i2⟩;rw [e3,hN hn];exact c1.nf hn hu
theorem oq (s:ByteArray) (h0:(Lx.fy s).2.1=0) {E:List Ev}{a:Nat}(hA:gm (.live [] 0) (fC s) E 0 a) :
  ∃L,cO qi E=some L/\cB 0 0 L=none/\∀n:Nat,(Lx.fy ⟨(Lw.im n L).toArray⟩).2.1=0/\(∃E',gm (.live [] 0) (fC ⟨(Lw.im n L).toArray⟩) E' 0 a/\cO qi E'=some L/\E'.map er=E.map er)/\Rl false (fC s) (fC ⟨(Lw.im n L).toArray⟩):=by
 have hT:=If s h0;obtain ⟨gs,ge,r1,r2,r3,r4,r5⟩:=rY (fC s) [] 0 qi none E a hA MA rfl hT (fun x t hx=>by cases hx);refine ⟨_,r2,(by have h:=kl E kj r2;rw [RG] at h;exact h),fun n=>?_⟩;have htok:∀t∈fC s,GX t:=fun t ht=>hT.tx t ht
 generalize hl:fC s=l at hA hT r1 r2 r3 r5 htok ⊢
 cases r3 with
 |nil=>
  exfalso
  obtain ⟨hc,_⟩:=hA.end;cases hc with
  |all hK=>cases hK
 |cons c1 c2=>
  rename_i G t gs l
  obtain ⟨kt,t1,t2⟩:=htok t (QY ..);have hsz:∀x∈t :: l,x.t.size≠0:=fun x hx=>by obtain ⟨k,h,_⟩:=htok x hx;have:=h.pos;omega
  obtain ⟨xs,x1,x2⟩:=IY n (.cons c1 c2) hsz r4;have htl:∀z∈l,GX z:=fun z hz=>htok z (QZ _ hz)
  obtain ⟨b1,b2⟩:=Kw c2 rfl x1 htl t1 t2
  have eT:(⟨(Lw.im n (eI (G :: gs) (t :: l)++ge)).toArray⟩:ByteArray)=t.t++lV xs l:=by
   rw [x2,tU,GC,IW c2 x1]
  rw [eT];obtain ⟨d1,d2⟩:=Lx.yZ (f:=0) t1 b1 b2;obtain ⟨T,hTT⟩:∃T,t.t++lV xs l=T:=⟨_,rfl⟩;rw [hTT] at d1 d2 ⊢;have hsc:Lx.fy T=Lx.gT T 0 0:=rfl;have hd:(Lx.fy T).1.map (vw T)=(wW kt t.t,t.t,0) :: KO xs l:=by rw [hsc];exact d2
  obtain ⟨x,ts,hts,hx,hts2⟩:∃x ts,(Lx.fy T).1=x :: ts/\vw T x=(wW kt t.t,t.t,0)/\ts.map (vw T)=KO xs l:=by
   cases hc:(Lx.fy T).1 with
   |nil=>rw [hc] at hd;cases hd
   |cons x ts=>rw [hc,Sc] at hd;injection hd with e1 e2;exact ⟨x,ts,rfl,e1,e2⟩
  have hkn:t.k.toNat=wW kt t.t:=by rw [t2];rfl
  rw [<-hkn] at hx;obtain ⟨e1,e2,e3⟩:=KR hx (htok t (QY ..));obtain ⟨i1,i2⟩:=Oi c2 x1 (fun h=>by cases h) htl ts hts2;have hst:fC T=Lx.tv T x :: ts.map (Lx.tv T):=by show (Lx.fy T).1.map (Lx.tv T)=_;rw [hts];rfl
  rw [hst];refine ⟨by rw [hsc];exact d1,?_,.cons e1 e2 (fun h=>by cases h) i2⟩;obtain ⟨E',y1,y2⟩:=r5 (Lx.tv T x :: ts.map (Lx.tv T)) (.cons e1 e2 (by rw [e3];omega) (fun h=>by cases h) i1);exact ⟨E',y1,y2⟩
end Go.Proofs.YtnljjdhodelhdaaGreatDoor
namespace Go.Proofs.YtnljjdhodelhdaaGreatDoor
open Go.RowKit
variable {t:Tv}{k:Nat}{K:List It}{n:Int}{E:List Ev}{R:Ro}
theorem Me (h:Ru t k K n E R):∀{k':Nat}{R':Ro},Ru t k' K n E R'->k=k'/\R=R':=by
 induction h with
 |nil=>intro k' R' h';cases h';exact ⟨rfl,rfl⟩
 |ref hs=>
  intro k' R' h';cases h' with
  |ref _=>exact ⟨rfl,rfl⟩
  |tk h2=>rw [hs] at h2;cases h2
  |go h2 _=>rw [hs] at h2;cases h2
 |tk hs=>
  intro k' R' h';cases h' with
  |ref h2=>rw [hs] at h2;cases h2
  |tk _=>exact ⟨rfl,rfl⟩
  |go h2 _=>rw [hs] at h2;cases h2
 |go hs _ ih=>
  intro k' R' h';cases h' with
  |ref h2=>rw [hs] at h2;cases h2
  |tk h2=>rw [hs] at h2;cases h2
  |go h2 h3=>
   rw [hs] at h2;cases h2;obtain ⟨rfl,rfl⟩:=ih h3;exact ⟨rfl,rfl⟩
theorem Md (h:Ru t k K n E R):∀{L:List It}{m:Int}{F:List Ev},R=.yes L m F->jR K->∃o,F=E++o/\o.length<=k:=by
 induction h with
 |nil=>intro L m F h;cases h
 |ref _=>intro L m F h;cases h
 |tk hs=>intro L m F h _;cases h;exact ⟨[],by simp,gt _⟩
 |go hs _ ih=>
  rename_i k i K n d E o r R _
  intro L m F h hw;have hi:=hw i (QY ..);obtain ⟨a1,a2,a3,a4⟩:=fJ (K:=K) hs hi;obtain ⟨o2,b1,b2⟩:=ih h (fH a1 (fun j hj=>hw j (QZ _ hj)));exact ⟨o++o2,by rw [b1,QW],by rw [Or];omega⟩
def qv (o:List Ev):Nat:=o.countP (fun e=>decide (e.k=1))
theorem zy (a b:List Ev):qv (a++b)=qv a+qv b:=U4 ..
theorem Ex (a:List Ev):qv a<=a.length:=List.countP_le_length
theorem DP (h:Ru t k K n E R):∀{L:List It}{m:Int}{F:List Ev},R=.yes L m F->jR K->∃o,F=E++o/\qv o<=10:=by
 induction h with
 |nil=>intro L m F h;cases h
 |ref _=>intro L m F h;cases h
 |tk hs=>intro L m F h _;cases h;exact ⟨[],by simp,by simp [qv]⟩
 |go hs hr ih=>
  rename_i k i K n d E o r R
  intro L m F h hw;have hi:=hw i (QY ..);obtain ⟨a1,a2,a3,a4⟩:=fJ (K:=K) hs hi
  have soon:∀c,c<=10->fE t c i->∃o,F=E++o/\qv o<=10:=by
   intro c hc hs2;obtain ⟨k',R',hk',hR'⟩:=hs2 K n E;have hall:=Ru.go hs hr;obtain ⟨e1,e2⟩:=Me hall hR';obtain ⟨o2,b1,b2⟩:=Md hall h hw;exact ⟨o2,b1,by have:=Ex o2;omega⟩
  have pass:o=[]\/(∃e,o=[e]/\e.k≠1)->∃o,F=E++o/\qv o<=10:=by
   intro ho;obtain ⟨o2,b1,b2⟩:=ih h (fH a1 (fun j hj=>hw j (QZ _ hj)));refine ⟨o++o2,by rw [b1,QW],?_⟩;rw [zy]
   have:qv o=0:=by
    rcases ho with rfl|⟨e,rfl,he⟩
    ·rfl
    ·simp [qv,he]
   omega
  cases i with
  |fl x=>exact soon 8 (by omega) (qJ t x)
  |lv a=>cases hs;exact pass (.inr ⟨_,rfl,by show (3:Int)≠1;decide⟩)
  |once p=>
   cases hp:Pk.pick t p with
   |none=>simp only [It.step,hp] at hs;cases hs;exact pass (.inl rfl)
   |some j=>exact soon 10 (by omega) (bY (r:=[]) (by simp [It.step,hp];exact ⟨rfl,rfl⟩) (jd hi hp))
  |again p=>
   cases hp:Pk.pick t p with
   |none=>simp only [It.step,hp] at hs;cases hs;exact pass (.inl rfl)
   |some j=>exact soon 10 (by omega) (bY (r:=[.again p]) (by simp [It.step,hp,GV];exact ⟨rfl,rfl⟩) (jd hi hp))
  |all rr=>
   obtain ⟨⟨kk,ts,rest,rfl⟩,_⟩:=hi;exact soon 1 (by omega) (bY (r:=rest.map It.fl) rfl (je t (.wd kk ts) aD 0))
theorem Em {o:List Ev}(hB:oc o):∀{s s':List Int},cF s o=some s'->o.length+s'.length=s.length+2*qv o:=by
 induction o with
 |nil=>intro s s' h;cases h;simp [qv]
 |cons e o ih=>
  intro s s' h;have hB':oc o:=fun x hx=>hB x (QZ _ hx)
  have hc:qv (e :: o)=qv o+(if e.k=1 then 1 else 0):=by unfold qv;rw [Sg];simp
  rcases hB e (QY ..) with h1|h3
  ·simp only [cF,IO h1] at h;have:=ih hB' h;rw [hc,IO h1];simp only [List.length_cons] at this ⊢;omega
  ·have h1:¬e.k=1:=by omega
   simp only [cF,Eq h1,IO h3] at h;cases s with
   |nil=>cases h
   |cons a b=>
    simp only at h
    split at h
    ·have:=ih hB' h;rw [hc,Eq h1];simp only [List.length_cons] at this ⊢;omega
    ·cases h
theorem nZ:∀(l:List Tv) (K:List It) (n:Int) (E:List Ev) (a:Nat),gm (.live K n) l E 0 a->gi (.live K n)->E.length<=(bM K).length+23*l.length+1
 |[],K,n,E,a,hA,hg=>by
  obtain ⟨hc,_⟩:=hA.end;cases hc with
  |all hK=>show 1<=_;omega
 |t :: l,K,n,E,a,hA,hg=>by
  rcases hA.inv with ⟨_,_,_,hc,_⟩|⟨ev,st',E2,k2,hp,hA2,rfl,rfl⟩
  ·exact absurd rfl hc
  ·obtain ⟨s,hs⟩:∃s:Sy,s.ks=bM K:=⟨⟨(bM K).map (fun k=>⟨k,0,false⟩),[],none,false,false,false⟩,by unfold Sy.ks;rw [Vt];exact List.map_id _⟩;obtain ⟨o,e,K',n',rfl,rfl,hg',hB,hn,hpl,hlen,rfl⟩:=zj hg hs hp;have h2:=nZ l K' n' E2 k2 hA2 hg';have h3:=Em hB hpl;rw [hs] at h3
   have h4:qv o<=11:=by
    obtain ⟨b1,b2,b3,b4,b5,hbot,hbn,hbe⟩:=cI hg;have hbo:qv (bN n)<=1:=Q0 (Ex _) hbe
    generalize hee:(⟨if (t.k == 7 || t.k == 8)=true then 4 else 2,0,t⟩:Ev)=e0 at hp
    generalize hev:o++[e0]=ev0 at hp
    cases hp with
    |note hc=>
     have:o=bN n:=(TW hev rfl).1;rw [this];omega
    |yes hc hR hkk hm=>
     obtain ⟨o2,c1,c2⟩:=DP hR rfl b1;have:=(TW hev rfl).1;rw [this,c1,zy];omega
   rw [Or,Or];simp only [List.length_cons,List.length_nil] at h2 ⊢;omega
end Go.Proofs.YtnljjdhodelhdaaGreatDoor
namespace Go.Proofs.YtnljjdhodelhdaaGreatDoor
open Go.RowKit
open Lw (Dc bE rt cB dq fi ik jm)
def jP (n:Int) (o:List Ev):Nat:=o.countP (fun e=>decide (e.k=1) && decide (e.n=n))
theorem Ay (n:Int) (a b:List Ev):jP n (a++b)=jP n a+jP n b:=U4 ..
def vM (m:M):List It->Nat
 |.fl (.mt m') :: _=>if m'=m then 1 else 0
 |_=>0
theorem oK {m1 m2:M}{n1 n2:Int}(h12:m1≠m2) (hn:n1≠n2) (h1:∀t,∃r,M.row t m1=.op n1 (.fl (.mt m2) :: r)) (h2:∀t,∃r,M.row t m2=.op n2 r) (ho:∀t m r,M.row t m=.op n1 r->m=m1)
  {t:Tv} {k:Nat} {K:List It} {n:Int} {E:List Ev} {R:Ro} (h:Ru t k K n E R):∀{L:List It} {m:Int} {F:List Ev},R=.yes L m F->∃o,F=E++o/\jP n1 o+vM m2 K<=jP n2 o:=by
 induction h with
 |nil=>intro L m F h;cases h
 |ref _=>intro L m F h;cases h
 |tk hs=>
  rename_i i K n E
  intro L m F h;cases h;refine ⟨[],by simp,?_⟩
  have:vM m2 (i :: K)=0:=by
   unfold vM
   split
   ·rename_i m' _ e
    injection e with e1 _
    subst e1
    exfalso
    simp only [It.step,Fl.step] at hs;cases hrow:M.row t m' <;> rw [hrow] at hs <;> cases hs
   ·rfl
  rw [this];exact gt _
 |go hs _ ih=>
  rename_i k i K n d E o r R _
  intro L m F h;obtain ⟨o2,b1,b2⟩:=ih h;refine ⟨o++o2,by rw [b1,QW],?_⟩;rw [Ay,Ay];cases i with
  |fl x=>
   have hm:∃m,x=.mt m:=by
    cases x with
    |mt m=>exact ⟨m,rfl⟩
    |_=>simp only [It.step,Fl.step] at hs;split at hs <;> cases hs
   obtain ⟨mm,rfl⟩:=hm;simp only [It.step,Fl.step] at hs;have hh:vM m2 (It.fl (.mt mm) :: K)=if mm=m2 then 1 else 0:=rfl
   rw [hh];cases hrow:M.row t mm with
   |ref=>rw [hrow] at hs;cases hs
   |ex r'=>
    rw [hrow] at hs;cases hs;have:mm≠m2:=fun e=>by subst e;obtain ⟨r3,h3⟩:=h2 t;rw [hrow] at h3;cases h3
    rw [Eq this];show 0+jP n1 o2+0<=0+jP n2 o2;omega
   |op nd r'=>
    rw [hrow] at hs;cases hs
    have c:∀q:Int,jP q [⟨1,nd,aC⟩]=if nd=q then 1 else 0:=by
     intro q;unfold jP
     by_cases e:nd=q <;> simp [e]
    rw [c,c]
    by_cases e1:mm=m1
    ·subst e1;obtain ⟨r3,h3⟩:=h1 t;rw [hrow] at h3;injection h3 with h4 h5
     subst h4 h5;have hx:vM m2 ((.fl (.mt m2) :: r3++[.lv nd])++K)=1:=by show (if m2=m2 then 1 else 0)=1;rw [IO rfl]
     rw [hx] at b2;rw [IO rfl,Eq hn,Eq h12];omega
    ·have e2:nd≠n1:=fun e=>e1 (ho t mm r' (by rw [hrow,e]))
     rw [Eq e2]
     by_cases e3:mm=m2
     ·subst e3;obtain ⟨r3,h3⟩:=h2 t;rw [hrow] at h3;injection h3 with h4 h5
      subst h4;rw [IO rfl,IO rfl];omega
     ·rw [Eq e3];omega
  |lv a=>cases hs;show 0+jP n1 o2+0<=0+jP n2 o2;omega
  |once p=>cases hs;show 0+jP n1 o2+0<=0+jP n2 o2;omega
  |again p=>cases hs;show 0+jP n1 o2+0<=0+jP n2 o2;omega
  |all rr=>cases hs;show 0+jP n1 o2+0<=0+jP n2 o2;omega
theorem oM {n:Int}{m1:M}(hn:n=21/\m1=.expr\/n=22/\m1=.rel\/n=23/\m1=.sum) (t:Tv) (m:M) (r:List It) (h:M.row t m=.op n r):m=m1:=by
 rcases hn with ⟨rfl,rfl⟩|⟨rfl,rfl⟩|⟨rfl,rfl⟩ <;> cases m <;> first|rfl|(simp only [M.row,cf] at h;repeat' (split at h));all_goals first|(cases h;done)|rfl
theorem IA {t:Tv}{k:Nat}{K:List It}{n:Int}{E:List Ev}{L:List It}{m:Int}{F:List Ev}(h:Ru t k K n E (.yes L m F)) (hw:jR K):∃o,F=E++o/\jP 21 o<=2:=by
 obtain ⟨o,e1,c1⟩:=DP h rfl hw;obtain ⟨o1,f1,g1⟩:=oK (m1:=.expr) (m2:=.rel) (n1:=21) (n2:=22) (by decide) (by decide) (fun t=>⟨_,rfl⟩) (fun t=>⟨_,rfl⟩) (oM (.inl ⟨rfl,rfl⟩)) h rfl;obtain ⟨o2,f2,g2⟩:=oK (m1:=.rel) (m2:=.sum) (n1:=22) (n2:=23) (by decide) (by decide) (fun t=>⟨_,rfl⟩) (fun t=>⟨_,rfl⟩) (oM (.inr (.inl ⟨rfl,rfl⟩))) h rfl;obtain ⟨o3,f3,g3⟩:=oK (m1:=.sum) (m2:=.term) (n1:=23) (n2:=24) (by decide) (by decide) (fun t=>⟨_,rfl⟩) (fun t=>⟨_,rfl⟩) (oM (.inr (.inr ⟨rfl,rfl⟩))) h rfl;have q1:=Sk (e1.symm.trans f1);have q2:=Sk (e1.symm.trans f2);have q3:=Sk (e1.symm.trans f3);subst q1 q2 q3;refine ⟨o,e1,?_⟩
 have key:jP 21 o+jP 22 o+jP 23 o+jP 24 o<=qv o:=by
  clear e1 c1 f1 g1 f2 g2 f3 g3
  induction o with
  |nil=>exact gt _
  |cons e o ih=>
   have hc:∀n:Int,jP n (e :: o)=jP n o+(if e.k=1/\e.n=n then 1 else 0):=by
    intro n;unfold jP;rw [Sg];simp
   have ho:qv (e :: o)=qv o+(if e.k=1 then 1 else 0):=by unfold qv;rw [Sg];simp
   rw [hc,hc,hc,hc,ho]
   by_cases hk:e.k=1
   ·simp only [hk,VJ,SY]
    repeat' split
    all_goals omega
   ·simp only [hk,false_and,R7];omega
 omega
end Go.Proofs.YtnljjdhodelhdaaGreatDoor
namespace Go.Proofs.YtnljjdhodelhdaaGreatDoor
open Go.RowKit
open Lw (Dc bE rt cB dq fi ik jm ud qh)
variable {o:List Ev}
def PQ (d:Dc):Bool:=!(decide (d.k=6) || decide (d.k=7))
def fx (l:List Dc):Nat:=l.countP PQ
theorem dr (a b:List Dc):fx (a++b)=fx a+fx b:=U4 ..
theorem gG (d:Dc) (b:List Dc):fx (d :: b)=fx b+(if PQ d=true then 1 else 0):=Sg ..
theorem iZ (d:Dc):fx [d]<=1:=by rw [gG];split <;> simp [fx]
def Pz.nb (p:Pz):Nat:=match p with|.S=>1|.B0=>1|.B1=>1|.H=>1|_=>0
def K3 (l:List Pz):Nat:=(l.map Pz.nb).sum
theorem Pd (s:Sy) (p:Pz):fx (s.aw p).ws<=fx s.ws+p.nb:=by
 rw [rC,dr]
 have:fx (jC p s.ns)<=p.nb:=by
  unfold jC
  split
  ·exact QU _
  ·cases p <;> exact gt _
 omega
theorem yx (l:List Pz):∀s:Sy,fx (s.aws l).ws<=fx s.ws+K3 l:=by
 induction l with
 |nil=>intro s;exact gt _
 |cons p l ih=>
  intro s;rw [ce];have h1:=ih (s.aw p);have h2:=Pd s p;have h3:K3 (p :: l)=p.nb+K3 l:=rfl;omega
theorem Lh (a:Fx):K3 a.pz<=1:=by cases a <;> decide
def my (l:List Nd):Nat:=l.countP (fun n=>decide (n.k=1))
def fT (s:Sy):Nat:=fx s.ws+my s.ns
theorem Jd (p:Pz) (l:List Nd):my (ib p l)=my l:=by
 cases l with
 |nil=>rfl
 |cons n r=>simp only [ib];split <;> (unfold my;rw [Sg,Sg])
theorem Jc (l:List Pz):∀s:Sy,my (s.aws l).ns=my s.ns:=by
 induction l with
 |nil=>intro s;rfl
 |cons p l ih=>intro s;rw [ce,ih];exact Jd p s.ns
theorem sw (s:Sy) (l:List Pz):fT (s.aws l)<=fT s+K3 l:=by
 unfold fT;rw [Jc];have:=yx l s;omega
theorem xK (s:Sy):fT s.exprIn<=fT s+1:=by
 unfold Sy.exprIn
 split
 ·omega
 ·rename_i n r e
  have hp:my (⟨n.k,(if n.k=19 then n.b+1 else n.b),true⟩ :: r)=my s.ns:=by rw [e];unfold my;rw [Sg,Sg]
  show fx (if n.k=19 then s.aws [.S,.I 3] else if n.k=31/\n.s=false then s.aws [.B0] else s).ws+my (⟨n.k,(if n.k=19 then n.b+1 else n.b),true⟩ :: r)<=_
  rw [hp];unfold fT
  split
  ·have:=yx [.S,.I 3] s;have:K3 [.S,.I 3]=1:=rfl;omega
  ·split
   ·have:=yx [.B0] s;have:K3 [.B0]=1:=rfl;omega
   ·omega
def N9 (k:Int):Nat:=(if k=21 then 1 else 0)+(if k=1 then 1 else 0)
theorem BE (s:Sy) (k:Int):fT (s.opens k)<=fT s+N9 k:=by
 obtain ⟨s1,hs1⟩:∃s1,(if k=21 then s.exprIn else s)=s1:=⟨_,rfl⟩
 have h1:fT s1<=fT s+(if k=21 then 1 else 0):=by
  rw [<-hs1];split
  ·exact xK s
  ·omega
 have h2:fT (s1.mark k)=fT s1:=by unfold Sy.mark;split <;> rfl
 have e:s.opens k=Sy.aws { (s1.mark k) with ns:=⟨k,0,false⟩ :: (s1.mark k).ns } (qu k):=by unfold Sy.opens;simp only;rw [hs1]
 rw [e];have h3:=sw { (s1.mark k) with ns:=⟨k,0,false⟩ :: (s1.mark k).ns } (qu k);have h4:K3 (qu k)=0:=by unfold qu;split;rfl;split <;> rfl
 have h5:fT ({ (s1.mark k) with ns:=⟨k,0,false⟩ :: (s1.mark k).ns }:Sy)=fT (s1.mark k)+(if k=1 then 1 else 0):=by
  show fx (s1.mark k).ws+my (⟨k,0,false⟩ :: (s1.mark k).ns)=fx (s1.mark k).ws+my (s1.mark k).ns+_
  unfold my;rw [Sg];simp;omega
 unfold N9;omega
theorem xJ (s:Sy):fT s.leaves<=fT s:=by
 unfold Sy.leaves
 split
 ·omega
 ·rename_i n r e
  show fx (s.ws++List.replicate n.b dX++(if n.k=1 then [dH] else []))+my r<=_
  have hp:my s.ns=my r+(if n.k=1 then 1 else 0):=by rw [e];unfold my;rw [Sg];simp
  have hr:fx (List.replicate n.b dX)=0:=by unfold fx;rw [List.countP_replicate];rfl
  unfold fT;rw [dr,dr,hr,hp]
  split
  ·have:=iZ dH;omega
  ·show _+0+fx []+_<=_;have:fx []=0:=rfl;omega
theorem BD (s:Sy) (a:Fx) (f:Int):fT (s.ready a f)<=fT s+4:=by
 have h1:=sw s a.pz;have hf:=Lh a
 have e1:fT ((s.aws a.pz).emp f)<=fT (s.aws a.pz)+1:=by
  unfold Sy.emp
  split
  ·omega
  ·split
   ·omega
   ·rename_i m _ _
    show fx ((s.aws a.pz).ws.take m++dE :: (s.aws a.pz).ws.drop m)+my (s.aws a.pz).ns<=_
    have hx:fx (s.aws a.pz).ws=fx ((s.aws a.pz).ws.take m)+fx ((s.aws a.pz).ws.drop m):=by rw [<-dr,RY]
    unfold fT;rw [dr,gG,hx]
    split <;> omega
 have e2:∀u:Sy,fT u.endl<=fT u+1:=fun u=>by
  unfold Sy.endl
  split
  ·show fx (dH :: u.ws)+my u.ns<=_;unfold fT;rw [gG];split <;> omega
  ·omega
 have e3:∀u:Sy,fT u.part<=fT u+1:=fun u=>by
  unfold Sy.part
  split
  ·show fx (u.ws++[dS])+my u.ns<=_;unfold fT;rw [dr];have:=iZ dS;omega
  ·omega
 unfold Sy.ready;have:=e3 ((s.aws a.pz).emp f).endl;have:=e2 ((s.aws a.pz).emp f);omega
theorem Ek (s:Sy) (t:Tv):fx (s.leaf t).2+fT (s.leaf t).1<=fT s+6:=by
 unfold Sy.leaf
 split
 ·have h0:fx ([]:List Dc)=0:=rfl;show fx []+fT s<=fT s+6;omega
 ·rename_i n r e
  have h1:=BD s (aH n t).a t.f;have h2:=sw ⟨(s.ready (aH n t).a t.f).ns,[],none,true,false,false⟩ (aH n t).b.pz;have h3:=Lh (aH n t).b
  have h4:fT ⟨(s.ready (aH n t).a t.f).ns,[],none,true,false,false⟩=my (s.ready (aH n t).a t.f).ns:=by
   have h0:fx ([]:List Dc)=0:=rfl;show fx []+my (s.ready (aH n t).a t.f).ns=my (s.ready (aH n t).a t.f).ns;omega
  show fx ((s.ready (aH n t).a t.f).ws++[dT t.t])+fT (Sy.aws ⟨(s.ready (aH n t).a t.f).ns,[],none,true,false,false⟩ (aH n t).b.pz)<=_
  rw [dr];have:=iZ (dT t.t);have h5:fT (s.ready (aH n t).a t.f)=fx (s.ready (aH n t).a t.f).ws+my (s.ready (aH n t).a t.f).ns:=rfl;omega
theorem Ej (s:Sy) (t:Tv):fx (s.note t).2+fT (s.note t).1<=fT s+6:=by
 have hx:fx s.ws=fx (s.ws.takeWhile bi)+fx (s.ws.dropWhile bi):=by rw [<-dr,Ts]
 have a1:=iZ (dT t.t);have a2:=iZ dS;unfold Sy.note;simp only
 split
 ·show fx (s.ws.takeWhile bi++[dS,dT t.t])+(fx (s.ws.dropWhile bi)+my s.ns)<=_
  unfold fT;rw [dr,show ([dS,dT t.t]:List Dc)=[dS]++[dT t.t] from rfl,dr,hx];omega
 ·show fx (s.ws.takeWhile bi++dH :: ((if _ then [dE] else [])++[dT t.t]))+(fx (s.ws.dropWhile bi)+my s.ns)<=_
  unfold fT;rw [dr,gG,dr,hx];have a3:=iZ dE;have a4:fx ([]:List Dc)=0:=rfl
  split <;> split <;> omega
def NY (e:Ev):Nat:=if e.k=1 then N9 e.n else if e.k=3 then 0 else 6
def t8 (E:List Ev):Nat:=(E.map NY).sum
theorem mU (a b:List Ev):t8 (a++b)=t8 a+t8 b:=by unfold t8;rw [SQ,Vv]
theorem I0 {s s':Sy}{e:Ev}{l:List Dc}(h:dF s e=some (s',l)):fx l+fT s'<=fT s+NY e:=by
 unfold dF at h
 split at h
 ·have h':=RJ h;obtain ⟨e1,e2⟩:(s.step e).1=s'/\(s.step e).2=l:=⟨by rw [h'],by rw [h']⟩;rw [<-e1,<-e2];unfold Sy.step NY
  split
  ·have h1:=BE s e.n;have h0:fx ([]:List Dc)=0:=rfl;show fx []+fT (s.opens e.n)<=fT s+N9 e.n;omega
  ·split
   ·have h1:=xJ s;have h0:fx ([]:List Dc)=0:=rfl;show fx []+fT s.leaves<=fT s+0;omega
   ·split
    ·exact Ek s e.d
    ·exact Ej s e.d
 ·cases h
theorem yD:∀(E:List Ev) {s:Sy}{L:List Dc},cO s E=some L->fx L<=fT s+t8 E+1
 |[],s,L,h=>by
  have h':ie s=some L:=h;unfold ie at h'
  split at h'
  ·cases h';unfold Sy.endl;unfold fT
   split
   ·show fx (dH :: s.ws)<=_;rw [gG];split <;> omega
   ·omega
  ·cases h'
 |e :: E,s,L,h=>by
  rw [gH] at h;cases hp:dF s e with
  |none=>rw [hp] at h;cases h
  |some x=>
   obtain ⟨s1,l⟩:=x;rw [hp] at h;simp only at h;obtain ⟨L1,h1,h2⟩:=Rv.1 h;have a1:=yD E h1;have a2:=I0 hp;have a3:t8 (e :: E)=NY e+t8 E:=rfl;rw [<-h2,dr];omega
theorem Hj (hB:oc o):t8 o<=jP 21 o+jP 1 o:=by
 induction o with
 |nil=>exact gt _
 |cons e o ih=>
  have h1:=ih (fun x hx=>hB x (QZ _ hx))
  have hc:∀n:Int,jP n (e :: o)=jP n o+(if e.k=1/\e.n=n then 1 else 0):=by
   intro n;unfold jP;rw [Sg];simp
  have hw:t8 (e :: o)=NY e+t8 o:=rfl;rw [hw,hc,hc];unfold NY N9
  rcases hB e (QY ..) with hk|hk
  ·simp only [hk,VJ,SY]
   repeat' split
   all_goals omega
  ·rw [Eq (by omega),IO hk]
   repeat' split
   all_goals omega
theorem GN:∀(l:List Tv) (K:List It) (n:Int) (E:List Ev) (a:Nat),gm (.live K n) l E 0 a->gi (.live K n)->t8 E<=8*l.length+t8 (bN n)
 |[],K,n,E,a,hA,hg=>by
  obtain ⟨hc,_⟩:=hA.end;cases hc with
  |all hK=>exact QU _
 |t :: l,K,n,E,a,hA,hg=>by
  rcases hA.inv with ⟨_,_,_,hc,_⟩|⟨ev,st',E2,k2,hp,hA2,rfl,rfl⟩
  ·exact absurd rfl hc
  ·obtain ⟨b1,b2,b3,b4,b5,hbot,hbn,hbe⟩:=cI hg;have hgk:=(dL hg hp).1
   have key:t8 ev<=8+t8 (bN n)/\∃K' n',st'=.live K' n'/\n'≠0:=by
    cases hp with
    |note hc=>
     rw [mU];have:t8 [⟨4,0,t⟩]=6:=rfl;refine ⟨by omega,_,_,rfl,?_⟩;unfold gk
     split
     ·decide
     ·rename_i hn;simpa using hn
    |yes hc hR hkk hm=>
     obtain ⟨_,_,d3,o,d4,_,d6,_⟩:=eF hR rfl b1 b2 b3;have hbl:=iW (oL hR rfl hbot);obtain ⟨o2,f1,f2⟩:=IA hR b1;rw [d4] at f1;have q:=Sk f1;subst q;have hBo:oc o:=fun e he=>(d6 e he).2.1
     have h1:=Hj hBo
     have h2:jP 1 o=0:=by
      unfold jP;rw [List.countP_eq_zero];intro e he;have:=(d6 e he).2.2;simp;exact this
     rw [d4,mU,mU];have:t8 [⟨2,0,t⟩]=6:=rfl;exact ⟨by omega,_,_,rfl,by omega⟩
   obtain ⟨k1,K',n',rfl,hn'⟩:=key;have h2:=GN l K' n' E2 k2 hA2 hgk
   have h3:t8 (bN n')=0:=by
    unfold bN;rw [Eq (by simpa using hn')];rfl
   rw [mU,List.length_cons];omega
def Dq (l:List ByteArray):Nat:=(l.map (·.size)).sum
theorem Ie (a b:List ByteArray):Dq (a++b)=Dq a+Dq b:=by unfold Dq;rw [SQ,Vv]
theorem C9:∀(L:List Dc),(∀d∈L,rt d=true)->qh L<=1001*fx L+2*Dq (om L)
 |[],_=>by simp [qh,fx,om,Dq]
 |d :: L,h=>by
  have ih:=C9 L (fun x hx=>h x (QZ _ hx));have e1:qh (d :: L)=ud d+qh L:=rfl;have e2:om (d :: L)=om [d]++om L:=by rw [<-kc];rfl
  rw [e1,gG,e2,Ie]
  have key:ud d<=(if PQ d=true then 1001 else 0)+2*Dq (om [d]):=by
   cases Lw.mu (h d (QY ..)) with
   |text t hq=>
    have:om [⟨1,t,0,0,false⟩]=[t]:=rfl;rw [this];show 2*t.size+1001<=1001+2*(t.size+0);omega
   |brk n hq=>exact gt _
   |beg n e hq=>exact gt _
   |blank=>exact gt _
   |hard=>exact gt _
   |empty=>exact gt _
   | «end»=>exact gt _
  split at key <;> rename_i hc
  ·rw [IO hc];omega
  ·rw [Eq hc];omega
theorem uB:∀(E:List Ev) {L0 L:List Dc}{s:Sy},eS L0 s->cO s E=some L->om L=E.flatMap M9
 |[],L0,L,s,hS,h=>(yS hS h).2
 |e :: E,L0,L,s,hS,h=>by
  rw [gH] at h;cases hp:dF s e with
  |none=>rw [hp] at h;cases h
  |some x=>
   obtain ⟨s1,l⟩:=x;rw [hp] at h;simp only at h;obtain ⟨L1,h1,h2⟩:=Rv.1 h;obtain ⟨a1,a2,_⟩:=yR hS hp;rw [<-h2,kc,a2,uB E a1 h1];rfl
theorem Ks (hB:oc o):o.flatMap M9=[]:=by
 induction o with
 |nil=>rfl
 |cons e o ih=>
  rw [List.flatMap_cons,ih (fun x hx=>hB x (QZ _ hx)),RI];unfold M9
  rcases hB e (QY ..) with h|h
  ·rw [IO h]
  ·rw [Eq (by omega),IO h]
theorem AD:∀(l:List Tv) (K:List It) (n:Int) (E:List Ev) (a:Nat),gm (.live K n) l E 0 a->gi (.live K n)->E.flatMap M9=l.map (·.t)
 |[],K,n,E,a,hA,hg=>by
  obtain ⟨hc,_⟩:=hA.end;cases hc with
  |all hK=>rfl
 |t :: l,K,n,E,a,hA,hg=>by
  rcases hA.inv with ⟨_,_,_,hc,_⟩|⟨ev,st',E2,k2,hp,hA2,rfl,rfl⟩
  ·exact absurd rfl hc
  ·obtain ⟨s,hs⟩:∃s:Sy,s.ks=bM K:=⟨⟨(bM K).map (fun k=>⟨k,0,false⟩),[],none,false,false,false⟩,by unfold Sy.ks;rw [Vt];exact List.map_id _⟩;obtain ⟨o,e,K',n',rfl,rfl,hg',hB,hn,hpl,hlen,rfl⟩:=zj hg hs hp;rw [UI,UI,Ks hB,AD l K' n' E2 k2 hA2 hg']
   have:M9 ⟨if (t.k == 7 || t.k == 8)=true then 4 else 2,0,t⟩=[t.t]:=by
    by_cases hc:(t.k == 7 || t.k == 8)=true
    ·rw [IO hc];rfl
    ·rw [Eq hc];rfl
   rw [List.flatMap_cons,this];rfl
theorem nN (s:ByteArray):∀(d a f:Nat),s.size-a<=d->Dq ((Lx.gT s a f).1.map (fun t=>s.extract t.a t.e))<=s.size-a
 |d,a,f,hd=>by
  by_cases ha:s.size<=a
  ·rw [Lx.eG s a f ha];exact QU _
  ·cases d with
   |zero=>omega
   |succ d=>
   rw [Lx.cq s a f (by omega)]
   split
   ·have:=nN s d (a+1) (f+1) (by omega);omega
   ·split
    ·have:=nN s d (a+1) f (by omega);omega
    ·split
     ·exact QU _
     ·rename_i h3
      split
      ·exact QU _
      ·rename_i h4
       have he:Lx.ap s a (Lx.ak s a)=((Lx.ap s a (Lx.ak s a)).1,0):=UW rfl (by simpa using h4);obtain ⟨hap,hp⟩:=Lx.eC s a _ _ (by omega) rfl h3 he;have ih:=nN s d (Lx.ap s a (Lx.ak s a)).1 0 (by omega);obtain ⟨p,hpp⟩:∃p,(Lx.ap s a (Lx.ak s a)).1=p:=⟨_,rfl⟩;rw [hpp] at hap hp ih ⊢
       have hte:(Lx.cQ s (Lx.ak s a) a p f).e<=p:=by
        show (if Lx.ak s a=7 then Lx.be s p else p)<=p
        split
        ·exact Lx.fS s p
        ·exact gt _
       have hsz:(s.extract (Lx.cQ s (Lx.ak s a) a p f).a (Lx.cQ s (Lx.ak s a) a p f).e).size<=p-a:=by
        rw [Lx.az s _ _ (by omega)];show (Lx.cQ s (Lx.ak s a) a p f).e-a<=p-a;omega
       simp only [Sc];show (s.extract _ _).size+Dq _<=_;omega
termination_by d=>d
theorem Da {s:ByteArray}{E:List Ev}{a:Nat}{L:List Dc}(hA:gm (.live [] 0) (fC s) E 0 a) (hL:cO qi E=some L) (hs:s.size<=262144) (hl:(fC s).length<=s.size):qh L<=2147483647/\∀d∈L,rt d=true:=by
 have hf:cB 0 0 L=none:=by have h:=kl E kj hL;rw [RG] at h;exact h
 have hr:=Lw.sX L 0 0 hf;have h1:=C9 L hr;have h2:=yD E hL;have h3:=GN _ _ _ _ _ hA dO;have h31:t8 (bN 0)=1:=rfl;have h4:om L=(fC s).map (·.t):=by rw [uB E kj hL];exact AD _ _ _ _ _ hA dO
 have h5:Dq ((fC s).map (·.t))<=s.size:=by
  have:=nN s _ 0 0 (gt _);show Dq (((Lx.fy s).1.map (Lx.tv s)).map (·.t))<=_;rw [Vt];have e:(fun t:Tv=>t.t) ∘ Lx.tv s=fun t=>s.extract t.a t.e:=rfl
  rw [e];exact this
 have h6:fT qi=0:=rfl;rw [h4] at h1;exact ⟨by omega,hr⟩
end Go.Proofs.YtnljjdhodelhdaaGreatDoor
namespace Go.Proofs.YtnljjdhodelhdaaGreatDoor
open Go.RowKit
theorem LF:∀(l:List Tv) (K:List It) (n:Int) (E:List Ev) (a:Nat),gm (.live K n) l E 0 a->gi (.live K n)->∀e∈E,e.d=aC\/e.d∈l
 |[],K,n,E,a,hA,hg=>by
  obtain ⟨hc,_⟩:=hA.end;cases hc with
  |all hK=>intro e he;simp at he;subst he;exact .inl rfl
 |t :: l,K,n,E,a,hA,hg=>by
  rcases hA.inv with ⟨_,_,_,hc,_⟩|⟨ev,st',E2,k2,hp,hA2,rfl,rfl⟩
  ·exact absurd rfl hc
  ·obtain ⟨b1,b2,b3,b4,b5,hbot,hbn,hbe⟩:=cI hg;have hgk:=(dL hg hp).1
   have hB:∀e∈bN n,e.d=aC:=by
    intro e he;unfold bN at he
    split at he
    ·simp at he;subst he;rfl
    ·simp at he
   have key:∀e∈ev,e.d=aC\/e.d=t:=by
    cases hp with
    |note hc=>
     intro e he
     rcases Rm.1 he with he|he
     ·exact .inl (hB e he)
     ·simp at he;subst he;exact .inr rfl
    |yes hc hR hkk hm=>
     obtain ⟨_,_,_,o,d4,_,d6,_⟩:=eF hR rfl b1 b2 b3;intro e he;rw [d4] at he
     rcases Rm.1 he with he|he
     ·rcases Rm.1 he with he|he
      ·exact .inl (hB e he)
      ·exact .inl (d6 e he).1
     ·simp at he;subst he;exact .inr rfl
   obtain ⟨K',n',rfl⟩:∃K' n',st'=.live K' n':=by
    cases hp with
    |note _=>exact ⟨_,_,rfl⟩
    |yes _ _ _ _=>exact ⟨_,_,rfl⟩
   intro e he
   rcases Rm.1 he with he|he
   ·exact (key e he).imp id (fun h=>by rw [h];exact QY ..)
   ·exact (LF l K' n' E2 k2 hA2 hgk e he).imp id (QZ _)
theorem L4 (s:ByteArray):∀t∈fC s,t.t.size<=s.size:=by
 intro t ht;obtain ⟨x,hx,rfl⟩:=TE.1 ht;obtain ⟨_,h1,h2⟩:=Lx.iO s _ 0 0 (gt _) x hx;show (s.extract x.a x.e).size<=_;rw [Lx.az s x.a x.e h2];omega
theorem rO (s:ByteArray):(fC s).length<=s.size:=by
 have key:∀(d a f:Nat),s.size-a<=d->(Lx.gT s a f).1.length<=s.size-a:=by
  intro d
  induction d with
  |zero=>intro a f h;rw [Lx.eG s a f (by omega)];exact QU _
  |succ d ih=>
   intro a f h
   by_cases ha:s.size<=a
   ·rw [Lx.eG s a f ha];exact QU _
   ·rw [Lx.cq s a f (by omega)]
    split
    ·have:=ih (a+1) (f+1) (by omega);omega
    ·split
     ·have:=ih (a+1) f (by omega);omega
     ·split
      ·exact QU _
      ·rename_i h3
       split
       ·exact QU _
       ·rename_i h4
        have he:Lx.ap s a (Lx.ak s a)=((Lx.ap s a (Lx.ak s a)).1,0):=UW rfl (by simpa using h4);obtain ⟨hap,hp⟩:=Lx.eC s a _ _ (by omega) rfl h3 he;have:=ih (Lx.ap s a (Lx.ak s a)).1 0 (by omega);simp only [List.length_cons];omega
 show ((Lx.fy s).1.map (Lx.tv s)).length<=_
 rw [Ua];exact key _ 0 0 (gt _)
end Go.Proofs.YtnljjdhodelhdaaGreatDoor
namespace Go.Proofs.YtnljjdhodelhdaaGreatDoor
open Go.RowKit
open Lw (Dc bE rt cB dq fi ik jm ud qh)
variable {b:Bool}{l l':List Tv}
theorem Mn (h:Rl b l l'):l'.length=l.length:=by
 induction h with
 |nil=>rfl
 |cons _ _ _ _ ih=>simp [ih]
theorem Ot (h:Rl b l l'):∀{j:Nat}{t t':Tv},l[j]?=some t->l'[j]?=some t'->t'.k=t.k/\t'.t=t.t/\(b=true\/0<j->fX t->(t.f=0↔t'.f=0)):=by
 induction h with
 |nil=>intro j t t' h;simp at h
 |cons e1 e2 e3 _ ih=>
  intro j t t' h1 h2;cases j with
  |zero=>
   simp at h1 h2;subst h1 h2;exact ⟨e1,e2,fun hb hn=>e3 (hb.resolve_right (by omega)) hn⟩
  |succ j=>
   obtain ⟨a1,a2,a3⟩:=ih (j:=j) (by simpa using h1) (by simpa using h2);exact ⟨a1,a2,fun _ hn=>a3 (.inl rfl) hn⟩
theorem Oq {d:Dc}(h:rt d=true):d.t.size<=9223372036854775807:=by
 cases Lw.mu h with
 |text t hq=>have:=(Lw.mZ hq).2;show t.size<=_;omega
 |_=>show (bE).size<=_;exact QU _
structure TwF (s T:ByteArray):Prop where
 len:(fC T).length=(fC s).length
 at_:∀(j:Nat) t t',(fC s)[j]?=some t->(fC T)[j]?=some t'->t'.k=t.k/\t'.t=t.t/\(0<j->fX t->(t.f=0↔t'.f=0))
structure Fd (s:ByteArray) (E:List Ev) (L:List Dc):Prop where
 sz:s.size<=262144
 sc:(Lx.fy s).2.1=0
 al:∃a,gm (.live [] 0) (fC s) E 0 a
 ly:cO qi E=some L
abbrev wo (n:Int) (L:List Dc):ByteArray:=⟨(Lw.im n.toNat L).toArray⟩
end Go.Proofs.YtnljjdhodelhdaaGreatDoor
