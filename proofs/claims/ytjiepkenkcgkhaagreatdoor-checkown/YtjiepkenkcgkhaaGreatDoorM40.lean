import Derived.Test.YtjiepkenkcgkhaaGreatDoorM29
import Derived.Test.YtjiepkenkcgkhaaGreatDoorM39
set_option linter.unusedVariables false
set_option linter.unusedSimpArgs false
namespace Go.Proofs.YtjiepkenkcgkhaaGreatDoor
open Go.RowKit
open Lw (Dc bE rt cy dh eZ ij ji fx eF ql wI)
theorem ki:∀(E:List Ev) {L0 L:List Dc}{s:Sy},eL L0 s->cK s E=some L->cy 0 0 (L0++L)=none
 |[],L0,L,s,hS,h=>(yE hS h).1
 |e :: E,L0,L,s,hS,h=>by
  rw [gG] at h;cases hp:dy s e with
  |none=>rw [hp] at h;cases h
  |some x=>
   obtain ⟨s1,l⟩:=x;rw [hp] at h;simp only at h;obtain ⟨L1,h1,h2⟩:=Q9.1 h;have:=ki E (yD hS hp).1 h1;rw [<-h2,<-QM];exact this
theorem oQ (n:Nat):∀(a b:List Dc) (ma mb:List Nat) (p:Lw.Pr),a.length=ma.length->Lw.puts n (a++b) (ma++mb) p=Lw.puts n b mb (Lw.puts n a ma p)
 |[],b,[],mb,p,_=>rfl
 |d :: a,b,m :: ma,mb,p,h=>oQ n a b ma mb _ (by simpa using h)
def Mc:List (Nat × Nat)->List Tv->List UInt8
 |x :: xs,t :: l=>List.replicate x.1 10++(List.replicate x.2 32++(ji t.t++Mc xs l))
 |_,_=>[]
inductive Lg:List (List Dc)->List (Nat × Nat)->Prop
 |nil:Lg [] []
 |cons {G:List Dc} {x:Nat × Nat} {gs:List (List Dc)} {xs:List (Nat × Nat)}:GP G x.1 x.2->Lg gs xs->Lg (G :: gs) (x :: xs)
theorem DY (n:Nat) {gs:List (List Dc)}{l:List Tv}{u:Option Tv}(hC:Ko u gs l):∀(ge:List Dc) (ms:List Nat) (p:Lw.Pr) (O:List UInt8),GI O [] 0 p->(∀t∈l,t.t.size≠0)->Nu ge->ms.length=(eE gs l++ge).length ->
  ∃xs,Lg gs xs/\(Lw.puts n (eE gs l++ge) ms p).sk.out=O++(Mc xs l++[10]):=by
 induction hC with
 |nil=>
  intro ge ms p O hI _ hE hl;obtain ⟨a,h⟩:=GI.puts (n:=n) ge ms hI (fun d hd=>⟨(hE.fine d hd).1,(hE.fine d hd).2.1⟩) (by simpa [eE] using hl.symm);rw [Rr] at h;have h1:=h.hd hE.hd;have h2:a≠2:=fun e=>(hE.fine dE (h.e2 e)).2.2 rfl
  have ha:a=1:=by rcases h.st with ⟨x,_⟩|⟨x,_⟩|⟨x,_⟩ <;> omega
  subst ha;exact ⟨[],.nil,by have:=h.out;simpa [eE,Mc] using this⟩
 |cons c1 c2 ih=>
  rename_i u G t gs l
  intro ge ms p O hI hz hE hl;have hl':ms.length=G.length+1+(eE gs l++ge).length:=by rw [hl];simp [eE];omega
  obtain ⟨m1,hm1⟩:∃m1,ms.take G.length=m1:=⟨_,rfl⟩
  obtain ⟨m2,m3,hm2⟩:∃m2 m3,ms.drop G.length=m2 :: m3:=by
   cases hc:ms.drop G.length with
   |nil=>have:=Q0 List.length hc;rw [Rf] at this;simp at this;omega
   |cons a b=>exact ⟨a,b,rfl⟩
  have e1:ms=m1++(m2 :: m3):=by rw [<-hm1,<-hm2,RJ]
  have l1:G.length=m1.length:=by rw [<-hm1,Ri];omega
  have l3:m3.length=(eE gs l++ge).length:=by
   have:=Q0 List.length hm2;rw [Rf] at this;simp only [List.length_cons] at this;omega
  have e2:eE (G :: gs) (t :: l)++ge=G++(dT t.t :: (eE gs l++ge)):=by simp [eE]
  rw [e1,e2,oQ n G _ m1 _ p l1];obtain ⟨a,h1⟩:=GI.puts (n:=n) G m1 hI c1.fine l1;rw [Rr] at h1;obtain ⟨b,g1,g2⟩:=h1.text (n:=n) (m:=m2) (hz t (QN ..));obtain ⟨xs,x1,x2⟩:=ih ge m3 _ _ g2 (fun y hy=>hz y (QO _ hy)) hE l3;refine ⟨(a,b) :: xs,.cons g1 x1,?_⟩;show (Lw.puts n (eE gs l++ge) m3 (Lw.put n (dT t.t) m2 (Lw.puts n G m1 p))).sk.out=_;rw [x2];simp [Mc]
theorem Hr {p:Lw.Pr}(h1:p.sk=wI) (h2:p.en=false) {n m:Nat}{d:Dc}(hd:rt d=true) (hk:d.k≠1):(Lw.put n d m p).sk=wI/\(Lw.put n d m p).en=false:=by
 have hf:p.sk.fresh=true:=by rw [h1];rfl
 have hold:∀k,(p.hold k).sk=wI/\(p.hold k).en=false:=fun k=>by unfold Lw.Pr.hold;rw [IO hf];exact ⟨h1,h2⟩
 have endl:p.endl.sk=wI/\p.endl.en=false:=by unfold Lw.Pr.endl;rw [IO hf];exact ⟨h1,h2⟩
 cases Lw.mj hd with
 |text t hq=>exact absurd rfl hk
 |brk k hq=>
  show (Lw.Pr.sk (if p.brk n m then p.endl else p.hold k.toNat))=wI/\(Lw.Pr.en (if p.brk n m then p.endl else p.hold k.toNat))=false
  split
  ·exact endl
  ·exact hold _
 |beg k e hq=>exact ⟨h1,h2⟩
 |blank=>exact hold 1
 |hard=>exact endl
 |empty=>
  show (Lw.Pr.sk (if p.en then { p with sk:=p.sk.empty,en:=false } else p))=wI/\(Lw.Pr.en (if p.en then { p with sk:=p.sk.empty,en:=false } else p))=false
  rw [h2];exact ⟨h1,h2⟩
 | «end»=>exact ⟨h1,h2⟩
theorem Dg {n:Nat}:∀(P:List Dc) (ms:List Nat) {p:Lw.Pr},p.sk=wI->p.en=false->(∀d∈P,rt d=true/\d.k≠1)->P.length=ms.length->(Lw.puts n P ms p).sk=wI/\(Lw.puts n P ms p).en=false
 |[],[],p,h1,h2,_,_=>⟨h1,h2⟩
 |d :: P,m :: ms,p,h1,h2,hr,hl=>by
  obtain ⟨a,b⟩:=Hr h1 h2 (n:=n) (m:=m) (hr d (QN ..)).1 (hr d (QN ..)).2;exact Dg P ms a b (fun x hx=>hr x (QO _ hx)) (by simpa using hl)
theorem IC (n:Nat) {G:List Dc}{gs:List (List Dc)}{t:Tv}{l:List Tv}{ge:List Dc}{u:Option Tv}(hC:Ko u (G :: gs) (t :: l)) (hz:∀x∈t :: l,x.t.size≠0) (hE:Nu ge) :
  ∃xs,Lg gs xs/\Lw.ik n (eE (G :: gs) (t :: l)++ge)=ji t.t++(Mc xs l++[10]):=by
 cases hC with
 |cons c1 c2=>
  obtain ⟨ms,hms⟩:∃ms,(eF (eE (G :: gs) (t :: l)++ge)).1=ms:=⟨_,rfl⟩;have hl:ms.length=(eE (G :: gs) (t :: l)++ge).length:=by rw [<-hms];exact Lw.kx _
  have hl':ms.length=G.length+1+(eE gs l++ge).length:=by rw [hl];simp [eE];omega
  obtain ⟨m1,hm1⟩:∃m1,ms.take G.length=m1:=⟨_,rfl⟩
  obtain ⟨m2,m3,hm2⟩:∃m2 m3,ms.drop G.length=m2 :: m3:=by
   cases hc:ms.drop G.length with
   |nil=>have:=Q0 List.length hc;rw [Rf] at this;simp at this;omega
   |cons a b=>exact ⟨a,b,rfl⟩
  have e1:ms=m1++(m2 :: m3):=by rw [<-hm1,<-hm2,RJ]
  have l1:G.length=m1.length:=by rw [<-hm1,Ri];omega
  have l3:m3.length=(eE gs l++ge).length:=by
   have:=Q0 List.length hm2;rw [Rf] at this;simp only [List.length_cons] at this;omega
  have e2:eE (G :: gs) (t :: l)++ge=G++(dT t.t :: (eE gs l++ge)):=by simp [eE]
  unfold Lw.ik;rw [hms,e1,e2,oQ n G _ m1 _ ql l1];obtain ⟨s1,s2⟩:=Dg (n:=n) G m1 (p:=ql) rfl rfl c1.fine l1;have ht:=hz t (QN ..)
  have hI:GI (ji t.t) [] 0 (Lw.put n (dT t.t) m2 (Lw.puts n G m1 ql)):=by
   refine pq ?_ ?_ rfl
   ·show ((Lw.puts n G m1 ql).sk.text t.t).out=_
    rw [lD ht,s1];rfl
   ·show ((Lw.puts n G m1 ql).sk.text t.t).fresh=false
    unfold fx.text;rw [Eq ht]
  obtain ⟨xs,x1,x2⟩:=DY n c2 ge m3 _ _ hI (fun y hy=>hz y (QO _ hy)) hE l3;exact ⟨xs,x1,x2⟩
end Go.Proofs.YtjiepkenkcgkhaaGreatDoor
namespace Go.Proofs.YtjiepkenkcgkhaaGreatDoor
open Go.RowKit
open Lw (Dc bE rt cy dh eZ ij ji)
open Lx (Tx Pm Kn Cy Cw m9 ay wL vw)
variable {l:List Tv}{u:Option Tv}{T:ByteArray}
def lS:List (Nat × Nat)->List Tv->ByteArray
 |x :: xs,t :: l=>m9 10 x.1++(m9 32 x.2++(t.t++lS xs l))
 |_,_=>m9 10 1
def Ks:List (Nat × Nat)->List Tv->List (Nat × ByteArray × Nat)
 |x :: xs,t :: l=>(t.k.toNat,t.t,x.1) :: Ks xs l
 |_,_=>[]
theorem tL (x y:List UInt8):(⟨(x++y).toArray⟩:ByteArray)=⟨x.toArray⟩++⟨y.toArray⟩:=by
 apply U2
 simp [ByteArray.data_append]
theorem Gh (t:ByteArray):(⟨(ji t).toArray⟩:ByteArray)=t:=by
 apply U2
 show t.data.toList.toArray=t.data
 simp
theorem Iz {gs:List (List Dc)}(h:Ko u gs l):∀{xs:List (Nat × Nat)},Lg gs xs->(⟨(Mc xs l++[10]).toArray⟩:ByteArray)=lS xs l:=by
 induction h with
 |nil=>intro xs hx;cases hx;rfl
 |cons _ _ ih=>
  intro xs hx;cases hx with
  |cons g1 g2=>
   simp only [Mc,lS,QM];rw [tL,tL,tL,Gh,ih g2];rfl
theorem vy (h:0<T.size):∃x r,T.data.toList=x :: r/\x.toNat=ay T 0:=by
 have h':0<T.data.size:=h;cases hc:T.data.toList with
 |nil=>
  rw [<-RG,hc] at h';exact absurd h' (by decide)
 |cons x r=>
  refine ⟨x,r,rfl,?_⟩;have e:(ji T).getD 0 0=x:=by show (T.data.toList).getD 0 0=x;rw [hc];rfl
  rw [<-sE T 0 h,e]
theorem iG {k:Nat}{t:Tv}(h:t.k=(wL k T:Nat)):((k=1\/k=3)->wA t)/\(k≠1->t.k=(k:Nat)):=by
 unfold wL at h
 by_cases hc:k=1/\Lx.ky T=true
 ·rw [IO hc] at h;exact ⟨fun _=>.inr (.inl h),fun h1=>absurd hc.1 h1⟩
 ·rw [Eq hc] at h;refine ⟨fun h1=>?_,fun _=>h⟩
  rcases h1 with rfl|rfl
  ·exact .inl h
  ·exact .inr (.inr h)
def GB (t:Tv):Prop:=∃k,Tx k t.t/\t.k=(wL k t.t:Nat)
theorem CQ {x:UInt8}{n:Nat}(h:x.toNat=n) (hn:n<256):x=UInt8.ofNat n:=by
 apply Uw.1
 rw [h];simp [UInt8.toNat_ofNat];omega
theorem J9 {gs:List (List Dc)}(h:Ko u gs l):∀{xs:List (Nat × Nat)}{x:Tv}{ku:Nat},u=some x->Lg gs xs->(∀t∈l,GB t)->Tx ku x.t->x.k=(wL ku x.t:Nat)->Kn ku x.t (lS xs l)/\Cw (lS xs l) 0 (Ks xs l):=by
 induction h with
 |nil=>
  intro xs x ku _ hx _ _ _;cases hx;exact ⟨Lx.kI (Lx.vH _ _) (by decide) rfl,Lx.Ik 1 0⟩
 |cons c1 c2 ih=>
  rename_i u G t gs l
  intro xs x ku hu hx hT hX hk;cases hx with
  |cons g1 g2=>
   rename_i y xs
   obtain ⟨a,b⟩:=y;obtain ⟨kt,t1,t2⟩:=hT t (QN ..);obtain ⟨i1,i2⟩:=ih (xs:=xs) rfl g2 (fun z hz=>hT z (QO _ hz)) t1 t2;have hkn:t.k.toNat=wL kt t.t:=by rw [t2];rfl
   have hrd:Cw (lS ((a,b) :: xs) (t :: l)) 0 (Ks ((a,b) :: xs) (t :: l)):=by
    show Cw (m9 10 a++(m9 32 b++(t.t++lS xs l))) 0 ((t.k.toNat,t.t,a) :: Ks xs l)
    rw [hkn];refine Lx.Ij ?_;rw [QU];exact Lx.yL t1 i1 i2
   refine ⟨?_,hrd⟩;subst hu;have hle:=g1.le;have pos:0<t.t.size:=t1.pos
   have hsz:0<(lS ((a,b) :: xs) (t :: l)).size:=by
    show 0<(m9 10 a++(m9 32 b++(t.t++lS xs l))).size
    simp only [Lx.br];omega
   have h7:ku=7->1<=a:=by
    intro e;have:x.k=7:=by have:=(iG hk).2 (by omega);omega
    exact g1.hd (c1.l7 x rfl this)
   by_cases ha:1<=a
   ·refine Lx.kI (Lx.vH _ _) hsz ?_;show ay (m9 10 a++_) 0=10;rw [Lx.bN,IO (by rw [Lx.dd];omega),Lx.kr _ _ _ (by omega)];rfl
   ·have ha0:a=0:=by omega
    by_cases hb:1<=b
    ·refine Lx.kI (Lx.xM _ (fun e=>ha (h7 e))) hsz ?_;show ay (m9 10 a++(m9 32 b++_)) 0=32;rw [Lx.bN,Eq (by rw [Lx.dd];omega),Lx.dd,ha0,Lx.bN,IO (by rw [Lx.dd];omega),Lx.kr _ _ _ (by omega)];rfl
    ·have hb0:b=0:=by omega
     have e8:ay (lS ((a,b) :: xs) (t :: l)) 0=ay t.t 0:=by
      show ay (m9 10 a++(m9 32 b++(t.t++lS xs l))) 0=_
      rw [Lx.bN,Eq (by rw [Lx.dd];omega),Lx.dd,ha0,Lx.bN,Eq (by rw [Lx.dd];omega),Lx.dd,hb0,Lx.bN,IO pos]
     refine Lx.kI (c:=ay t.t 0) ?_ hsz e8;have hF:=Lx.tZ t1;have hFx:=Lx.tZ hX;have no:¬G.any bQ=true:=fun e=>by rcases g1.gp e with h|h <;> omega
     by_cases h8:ku=8
     ·exact ⟨hF.nc,fun e=>by omega,fun e=>by omega,fun e=>by omega,fun e=>by omega⟩
     ·have hnx:¬gE x:=by
       rintro (e|e)
       ·have hk7:ku=7:=by
         by_cases h1:ku=1
         ·have:=(iG hk).1 (.inl h1)
          rcases this with h|h|h <;> omega
         ·have:=(iG hk).2 h1;omega
        exact ha (h7 hk7)
       ·by_cases h1:ku=1
        ·have:=(iG hk).1 (.inl h1)
         rcases this with h|h|h <;> omega
        ·have:=(iG hk).2 h1;omega
      have hnt:¬gE t:=fun e=>no (c1.lN x rfl hnx e)
      obtain ⟨w1,w2⟩:=(c1.lL x rfl hnx hnt).resolve_left no
      have hkt:kt≠7/\kt≠8:=by
       refine ⟨fun e=>hnt (.inl ?_),fun e=>hnt (.inr ?_)⟩
       ·have:=(iG t2).2 (by omega);omega
       ·have:=(iG t2).2 (by omega);omega
      refine Lx.EZ (fun e=>ha (h7 e)) hF hkt (fun ⟨p,q⟩=>w1 ⟨(iG hk).1 p,(iG t2).1 q⟩) ?_;intro e6 es est et6
      have hxs:yB x:=by
       refine ⟨by have:=(iG hk).2 (by omega);omega,?_⟩;obtain ⟨z,r,ez,en⟩:=vy hX.pos
       have hr:r=[]:=by
        have:=Q0 List.length ez;have hl:x.t.data.toList.length=x.t.size:=RG;rw [hl,es] at this;simp at this;exact this
       rw [ez,hr];rw [<-en] at est
       rcases est with h|h|h|h|h <;> (rw [CQ h (by decide)];decide)
      have hnd:¬Gg t:=fun h=>w2 ⟨hxs,h⟩
      have hk6:t.k=6:=by have:=(iG t2).2 (by omega);omega
      obtain ⟨z,r,ez,en⟩:=vy pos
      have key:∀n,(n=61\/n=46\/n=47)->ay t.t 0≠n:=by
       intro n hn e;rw [<-en] at e;refine hnd ⟨hk6,?_⟩;rw [ez];show mT.contains z=true
       rcases hn with rfl|rfl|rfl <;> (rw [CQ e (by decide)];decide)
      exact ⟨key 61 (.inl rfl),key 46 (.inr (.inl rfl)),key 47 (.inr (.inr rfl))⟩
end Go.Proofs.YtjiepkenkcgkhaaGreatDoor
namespace Go.Proofs.YtjiepkenkcgkhaaGreatDoor
open Go.RowKit
open Lw (Dc bE rt cy dh eZ ij ji)
open Lx (Tx Pm Kn Cy Cw m9 ay wL vw Tk)
variable {T:ByteArray}
inductive Rl:Bool->List Tv->List Tv->Prop
 |nil {b:Bool}:Rl b [] []
 |cons {b:Bool} {t t':Tv} {l l':List Tv}:t'.k=t.k->t'.t=t.t->(b=true->gE t->(t.f=0↔t'.f=0))->Rl true l l'->Rl b (t :: l) (t' :: l')
theorem Kw {x:Tk}{t:Tv}{f:Nat}(h:vw T x=(t.k.toNat,t.t,f)) (hk:GB t):(Lx.tv T x).k=t.k/\(Lx.tv T x).t=t.t/\(Lx.tv T x).f=(f:Int):=by
 obtain ⟨k,_,e⟩:=hk;have h1:x.k=t.k.toNat:=Q0 Prod.fst h;have h2:T.extract x.a x.e=t.t:=Q0 (fun z=>z.2.1) h;have h3:x.f=f:=Q0 (fun z=>z.2.2) h;refine ⟨?_,h2,by show (x.f:Int)=_;rw [h3]⟩;show (x.k:Int)=_;rw [h1,e];rfl
theorem N0 {gs:List (List Dc)}{l:List Tv}{u:Option Tv}(h:Ko u gs l):∀{xs:List (Nat × Nat)},Lg gs xs->u≠none->(∀t∈l,GB t)->∀ts:List Tk,ts.map (vw T)=Ks xs l->Sm true gs l (ts.map (Lx.tv T))/\Rl true l (ts.map (Lx.tv T)):=by
 induction h with
 |nil=>
  intro xs hx _ _ ts ht;cases hx;have:ts=[]:=List.map_eq_nil_iff.1 ht;subst this;exact ⟨.nil,.nil⟩
 |cons c1 c2 ih=>
  rename_i u G t gs l
  intro xs hx hu hT ts ht;cases hx with
  |cons g1 g2=>
   rename_i y xs
   obtain ⟨a,b⟩:=y;cases ts with
   |nil=>cases ht
   |cons x ts=>
    rw [Sg] at ht;have ht':vw T x :: ts.map (vw T)=(t.k.toNat,t.t,a) :: Ks xs l:=ht;injection ht' with h1 h2
    obtain ⟨e1,e2,e3⟩:=Kw h1 (hT t (QN ..));obtain ⟨i1,i2⟩:=ih g2 (fun h=>by cases h) (fun z hz=>hT z (QO _ hz)) ts h2
    have hE:(2:Int)<=(a:Int)↔dE∈G:=by
     have hle:=g1.le;constructor
     ·intro h;exact g1.e2 (by have hle':a<=2:=hle;omega)
     ·intro h;have:a=2:=g1.he (c1.hb h);omega
    have hN:gE t->((a:Int)=0↔G.any bD=false):=by
     intro hn;constructor
     ·intro h;cases hc:G.any bD with
      |false=>rfl
      |true=>have h9:1<=a:=g1.hd hc;omega
     ·intro h
      apply Rv
      intro hne
      rcases g1.no (show 1<=a by omega) with h3|h3
      ·rw [h] at h3;cases h3
      ·rw [c1.nb hn] at h3;cases h3
    refine ⟨.cons e1 e2 (by rw [e3];omega) (fun _=>⟨by rw [e3];exact hE,fun hn=>by rw [e3];exact hN hn⟩) i1,.cons e1 e2 (fun _ hn=>?_) i2⟩;rw [e3,hN hn];exact c1.nf hn hu
theorem oj (s:ByteArray) (h0:(Lx.fu s).2.1=0) {E:List Ev}{a:Nat}(hA:gA (.live [] 0) (eY s) E 0 a) :
  ∃L,cK qd E=some L/\cy 0 0 L=none/\∀n:Nat,(Lx.fu ⟨(Lw.ik n L).toArray⟩).2.1=0/\(∃E',gA (.live [] 0) (eY ⟨(Lw.ik n L).toArray⟩) E' 0 a/\cK qd E'=some L/\E'.map er=E.map er)/\Rl false (eY s) (eY ⟨(Lw.ik n L).toArray⟩):=by
 have hT:=Hl s h0;obtain ⟨gs,ge,r1,r2,r3,r4,r5⟩:=rR (eY s) [] 0 qd none E a hA Mf rfl hT (fun x t hx=>by cases hx);refine ⟨_,r2,(by have h:=ki E kh r2;rw [Rr] at h;exact h),fun n=>?_⟩;have htok:∀t∈eY s,GB t:=fun t ht=>hT.tx t ht
 generalize hl:eY s=l at hA hT r1 r2 r3 r5 htok ⊢
 cases r3 with
 |nil=>
  exfalso
  obtain ⟨hc,_⟩:=hA.end;cases hc with
  |all hK=>cases hK
 |cons c1 c2=>
  rename_i G t gs l
  obtain ⟨kt,t1,t2⟩:=htok t (QN ..);have hsz:∀x∈t :: l,x.t.size≠0:=fun x hx=>by obtain ⟨k,h,_⟩:=htok x hx;have:=h.pos;omega
  obtain ⟨xs,x1,x2⟩:=IC n (.cons c1 c2) hsz r4;have htl:∀z∈l,GB z:=fun z hz=>htok z (QO _ hz)
  obtain ⟨b1,b2⟩:=J9 c2 rfl x1 htl t1 t2
  have eT:(⟨(Lw.ik n (eE (G :: gs) (t :: l)++ge)).toArray⟩:ByteArray)=t.t++lS xs l:=by
   rw [x2,tL,Gh,Iz c2 x1]
  rw [eT];obtain ⟨d1,d2⟩:=Lx.yL (f:=0) t1 b1 b2;obtain ⟨T,hTT⟩:∃T,t.t++lS xs l=T:=⟨_,rfl⟩;rw [hTT] at d1 d2 ⊢;have hsc:Lx.fu T=Lx.gS T 0 0:=rfl;have hd:(Lx.fu T).1.map (vw T)=(wL kt t.t,t.t,0) :: Ks xs l:=by rw [hsc];exact d2
  obtain ⟨x,ts,hts,hx,hts2⟩:∃x ts,(Lx.fu T).1=x :: ts/\vw T x=(wL kt t.t,t.t,0)/\ts.map (vw T)=Ks xs l:=by
   cases hc:(Lx.fu T).1 with
   |nil=>rw [hc] at hd;cases hd
   |cons x ts=>rw [hc,Sg] at hd;injection hd with e1 e2;exact ⟨x,ts,rfl,e1,e2⟩
  have hkn:t.k.toNat=wL kt t.t:=by rw [t2];rfl
  rw [<-hkn] at hx;obtain ⟨e1,e2,e3⟩:=Kw hx (htok t (QN ..));obtain ⟨i1,i2⟩:=N0 c2 x1 (fun h=>by cases h) htl ts hts2;have hst:eY T=Lx.tv T x :: ts.map (Lx.tv T):=by show (Lx.fu T).1.map (Lx.tv T)=_;rw [hts];rfl
  rw [hst];refine ⟨by rw [hsc];exact d1,?_,.cons e1 e2 (fun h=>by cases h) i2⟩;obtain ⟨E',y1,y2⟩:=r5 (Lx.tv T x :: ts.map (Lx.tv T)) (.cons e1 e2 (by rw [e3];omega) (fun h=>by cases h) i1);exact ⟨E',y1,y2⟩
end Go.Proofs.YtjiepkenkcgkhaaGreatDoor
namespace Go.Proofs.YtjiepkenkcgkhaaGreatDoor
open Go.RowKit
variable {t:Tv}{k:Nat}{K:List It}{n:Int}{E:List Ev}{R:Ro}
theorem LR (h:Ru t k K n E R):∀{k':Nat}{R':Ro},Ru t k' K n E R'->k=k'/\R=R':=by
 induction h with
 |nil=>intro k' R' h';cases h';exact ⟨rfl,rfl⟩
 |ref hs=>
  intro k' R' h';cases h' with
  |ref _=>exact ⟨rfl,rfl⟩
  |tk h2=>rw [hs] at h2;cases h2
  |go h2 _=>rw [hs] at h2;cases h2
 |tk hs=>
  intro k' R' h';cases h' with
  |ref h2=>rw [hs] at h2;cases h2
  |tk _=>exact ⟨rfl,rfl⟩
  |go h2 _=>rw [hs] at h2;cases h2
 |go hs _ ih=>
  intro k' R' h';cases h' with
  |ref h2=>rw [hs] at h2;cases h2
  |tk h2=>rw [hs] at h2;cases h2
  |go h2 h3=>
   rw [hs] at h2;cases h2;obtain ⟨rfl,rfl⟩:=ih h3;exact ⟨rfl,rfl⟩
theorem LQ (h:Ru t k K n E R):∀{L:List It}{m:Int}{F:List Ev},R=.yes L m F->jQ K->∃o,F=E++o/\o.length<=k:=by
 induction h with
 |nil=>intro L m F h;cases h
 |ref _=>intro L m F h;cases h
 |tk hs=>intro L m F h _;cases h;exact ⟨[],by simp,gt _⟩
 |go hs _ ih=>
  rename_i k i K n d E o r R _
  intro L m F h hw;have hi:=hw i (QN ..);obtain ⟨a1,a2,a3,a4⟩:=fF (K:=K) hs hi;obtain ⟨o2,b1,b2⟩:=ih h (fD a1 (fun j hj=>hw j (QO _ hj)));exact ⟨o++o2,by rw [b1,QM],by rw [Or];omega⟩
def qo (o:List Ev):Nat:=o.countP (fun e=>decide (e.k=1))
theorem ze (a b:List Ev):qo (a++b)=qo a+qo b:=UQ ..
theorem Ed (a:List Ev):qo a<=a.length:=List.countP_le_length
theorem Dx (h:Ru t k K n E R):∀{L:List It}{m:Int}{F:List Ev},R=.yes L m F->jQ K->∃o,F=E++o/\qo o<=10:=by
 induction h with
 |nil=>intro L m F h;cases h
 |ref _=>intro L m F h;cases h
 |tk hs=>intro L m F h _;cases h;exact ⟨[],by simp,by simp [qo]⟩
 |go hs hr ih=>
  rename_i k i K n d E o r R
  intro L m F h hw;have hi:=hw i (QN ..);obtain ⟨a1,a2,a3,a4⟩:=fF (K:=K) hs hi
  have soon:∀c,c<=10->fA t c i->∃o,F=E++o/\qo o<=10:=by
   intro c hc hs2;obtain ⟨k',R',hk',hR'⟩:=hs2 K n E;have hall:=Ru.go hs hr;obtain ⟨e1,e2⟩:=LR hall hR';obtain ⟨o2,b1,b2⟩:=LQ hall h hw;exact ⟨o2,b1,by have:=Ed o2;omega⟩
  have pass:o=[]\/(∃e,o=[e]/\e.k≠1)->∃o,F=E++o/\qo o<=10:=by
   intro ho;obtain ⟨o2,b1,b2⟩:=ih h (fD a1 (fun j hj=>hw j (QO _ hj)));refine ⟨o++o2,by rw [b1,QM],?_⟩;rw [ze]
   have:qo o=0:=by
    rcases ho with rfl|⟨e,rfl,he⟩
    ·rfl
    ·simp [qo,he]
   omega
  cases i with
  |fl x=>exact soon 8 (by omega) (qD t x)
  |lv a=>cases hs;exact pass (.inr ⟨_,rfl,by show (3:Int)≠1;decide⟩)
  |once p=>
   cases hp:Pk.pick t p with
   |none=>simp only [It.step,hp] at hs;cases hs;exact pass (.inl rfl)
   |some j=>exact soon 10 (by omega) (bW (r:=[]) (by simp [It.step,hp];exact ⟨rfl,rfl⟩) (ja hi hp))
  |again p=>
   cases hp:Pk.pick t p with
   |none=>simp only [It.step,hp] at hs;cases hs;exact pass (.inl rfl)
   |some j=>exact soon 10 (by omega) (bW (r:=[.again p]) (by simp [It.step,hp,Gz];exact ⟨rfl,rfl⟩) (ja hi hp))
  |all rr=>
   obtain ⟨⟨kk,ts,rest,rfl⟩,_⟩:=hi;exact soon 1 (by omega) (bW (r:=rest.map It.fl) rfl (jb t (.wd kk ts) aC 0))
theorem D5 {o:List Ev}(hB:nY o):∀{s s':List Int},cB s o=some s'->o.length+s'.length=s.length+2*qo o:=by
 induction o with
 |nil=>intro s s' h;cases h;simp [qo]
 |cons e o ih=>
  intro s s' h;have hB':nY o:=fun x hx=>hB x (QO _ hx)
  have hc:qo (e :: o)=qo o+(if e.k=1 then 1 else 0):=by unfold qo;rw [RY];simp
  rcases hB e (QN ..) with h1|h3
  ·simp only [cB,IO h1] at h;have:=ih hB' h;rw [hc,IO h1];simp only [List.length_cons] at this ⊢;omega
  ·have h1:¬e.k=1:=by omega
   simp only [cB,Eq h1,IO h3] at h;cases s with
   |nil=>cases h
   |cons a b=>
    simp only at h
    split at h
    ·have:=ih hB' h;rw [hc,Eq h1];simp only [List.length_cons] at this ⊢;omega
    ·cases h
theorem Al:∀(l:List Tv) (K:List It) (n:Int) (E:List Ev) (a:Nat),gA (.live K n) l E 0 a->fX (.live K n)->E.length<=(bJ K).length+23*l.length+1
 |[],K,n,E,a,hA,hg=>by
  obtain ⟨hc,_⟩:=hA.end;cases hc with
  |all hK=>show 1<=_;omega
 |t :: l,K,n,E,a,hA,hg=>by
  rcases hA.inv with ⟨_,_,_,hc,_⟩|⟨ev,st',E2,k2,hp,hA2,rfl,rfl⟩
  ·exact absurd rfl hc
  ·obtain ⟨s,hs⟩:∃s:Sy,s.ks=bJ K:=⟨⟨(bJ K).map (fun k=>⟨k,0,false⟩),[],none,false,false,false⟩,by unfold Sy.ks;rw [Vf];exact List.map_id _⟩;obtain ⟨o,e,K',n',rfl,rfl,hg',hB,hn,hpl,hlen,rfl⟩:=yQ hg hs hp;have h2:=Al l K' n' E2 k2 hA2 hg';have h3:=D5 hB hpl;rw [hs] at h3
   have h4:qo o<=11:=by
    obtain ⟨b1,b2,b3,b4,b5,hbot,hbn,hbe⟩:=cG hg;have hbo:qo (bK n)<=1:=QQ (Ed _) hbe
    generalize hee:(⟨if (t.k == 7 || t.k == 8)=true then 4 else 2,0,t⟩:Ev)=e0 at hp
    generalize hev:o++[e0]=ev0 at hp
    cases hp with
    |note hc=>
     have:o=bK n:=(TH hev rfl).1;rw [this];omega
    |yes hc hR hkk hm=>
     obtain ⟨o2,c1,c2⟩:=Dx hR rfl b1;have:=(TH hev rfl).1;rw [this,c1,ze];omega
   rw [Or,Or];simp only [List.length_cons,List.length_nil] at h2 ⊢;omega
end Go.Proofs.YtjiepkenkcgkhaaGreatDoor
namespace Go.Proofs.YtjiepkenkcgkhaaGreatDoor
open Go.RowKit
open Lw (Dc bE rt cy dh eZ ij ji)
def jP (n:Int) (o:List Ev):Nat:=o.countP (fun e=>decide (e.k=1) && decide (e.n=n))
theorem Ad (n:Int) (a b:List Ev):jP n (a++b)=jP n a+jP n b:=UQ ..
def vz (m:M):List It->Nat
 |.fl (.mt m') :: _=>if m'=m then 1 else 0
 |_=>0
theorem oH {m1 m2:M}{n1 n2:Int}(h12:m1≠m2) (hn:n1≠n2) (h1:∀t,∃r,M.row t m1=.op n1 (.fl (.mt m2) :: r)) (h2:∀t,∃r,M.row t m2=.op n2 r) (ho:∀t m r,M.row t m=.op n1 r->m=m1)
  {t:Tv} {k:Nat} {K:List It} {n:Int} {E:List Ev} {R:Ro} (h:Ru t k K n E R):∀{L:List It} {m:Int} {F:List Ev},R=.yes L m F->∃o,F=E++o/\jP n1 o+vz m2 K<=jP n2 o:=by
 induction h with
 |nil=>intro L m F h;cases h
 |ref _=>intro L m F h;cases h
 |tk hs=>
  rename_i i K n E
  intro L m F h;cases h;refine ⟨[],by simp,?_⟩
  have:vz m2 (i :: K)=0:=by
   unfold vz
   split
   ·rename_i m' _ e
    injection e with e1 _
    subst e1
    exfalso
    simp only [It.step,Fl.step] at hs;cases hrow:M.row t m' <;> rw [hrow] at hs <;> cases hs
   ·rfl
  rw [this];exact gt _
 |go hs _ ih=>
  rename_i k i K n d E o r R _
  intro L m F h;obtain ⟨o2,b1,b2⟩:=ih h;refine ⟨o++o2,by rw [b1,QM],?_⟩;rw [Ad,Ad];cases i with
  |fl x=>
   have hm:∃m,x=.mt m:=by
    cases x with
    |mt m=>exact ⟨m,rfl⟩
    |_=>simp only [It.step,Fl.step] at hs;split at hs <;> cases hs
   obtain ⟨mm,rfl⟩:=hm;simp only [It.step,Fl.step] at hs;have hh:vz m2 (It.fl (.mt mm) :: K)=if mm=m2 then 1 else 0:=rfl
   rw [hh];cases hrow:M.row t mm with
   |ref=>rw [hrow] at hs;cases hs
   |ex r'=>
    rw [hrow] at hs;cases hs;have:mm≠m2:=fun e=>by subst e;obtain ⟨r3,h3⟩:=h2 t;rw [hrow] at h3;cases h3
    rw [Eq this];show 0+jP n1 o2+0<=0+jP n2 o2;omega
   |op nd r'=>
    rw [hrow] at hs;cases hs
    have c:∀q:Int,jP q [⟨1,nd,aB⟩]=if nd=q then 1 else 0:=by
     intro q;unfold jP
     by_cases e:nd=q <;> simp [e]
    rw [c,c]
    by_cases e1:mm=m1
    ·subst e1;obtain ⟨r3,h3⟩:=h1 t;rw [hrow] at h3;injection h3 with h4 h5
     subst h4 h5;have hx:vz m2 ((.fl (.mt m2) :: r3++[.lv nd])++K)=1:=by show (if m2=m2 then 1 else 0)=1;rw [IO rfl]
     rw [hx] at b2;rw [IO rfl,Eq hn,Eq h12];omega
    ·have e2:nd≠n1:=fun e=>e1 (ho t mm r' (by rw [hrow,e]))
     rw [Eq e2]
     by_cases e3:mm=m2
     ·subst e3;obtain ⟨r3,h3⟩:=h2 t;rw [hrow] at h3;injection h3 with h4 h5
      subst h4;rw [IO rfl,IO rfl];omega
     ·rw [Eq e3];omega
  |lv a=>cases hs;show 0+jP n1 o2+0<=0+jP n2 o2;omega
  |once p=>cases hs;show 0+jP n1 o2+0<=0+jP n2 o2;omega
  |again p=>cases hs;show 0+jP n1 o2+0<=0+jP n2 o2;omega
  |all rr=>cases hs;show 0+jP n1 o2+0<=0+jP n2 o2;omega
theorem oJ {n:Int}{m1:M}(hn:n=21/\m1=.expr\/n=22/\m1=.rel\/n=23/\m1=.sum) (t:Tv) (m:M) (r:List It) (h:M.row t m=.op n r):m=m1:=by
 rcases hn with ⟨rfl,rfl⟩|⟨rfl,rfl⟩|⟨rfl,rfl⟩ <;> cases m <;> first|rfl|(simp only [M.row,cd] at h;repeat' (split at h));all_goals first|(cases h;done)|rfl
theorem If {t:Tv}{k:Nat}{K:List It}{n:Int}{E:List Ev}{L:List It}{m:Int}{F:List Ev}(h:Ru t k K n E (.yes L m F)) (hw:jQ K):∃o,F=E++o/\jP 21 o<=2:=by
 obtain ⟨o,e1,c1⟩:=Dx h rfl hw;obtain ⟨o1,f1,g1⟩:=oH (m1:=.expr) (m2:=.rel) (n1:=21) (n2:=22) (by decide) (by decide) (fun t=>⟨_,rfl⟩) (fun t=>⟨_,rfl⟩) (oJ (.inl ⟨rfl,rfl⟩)) h rfl;obtain ⟨o2,f2,g2⟩:=oH (m1:=.rel) (m2:=.sum) (n1:=22) (n2:=23) (by decide) (by decide) (fun t=>⟨_,rfl⟩) (fun t=>⟨_,rfl⟩) (oJ (.inr (.inl ⟨rfl,rfl⟩))) h rfl;obtain ⟨o3,f3,g3⟩:=oH (m1:=.sum) (m2:=.term) (n1:=23) (n2:=24) (by decide) (by decide) (fun t=>⟨_,rfl⟩) (fun t=>⟨_,rfl⟩) (oJ (.inr (.inr ⟨rfl,rfl⟩))) h rfl;have q1:=R5 (e1.symm.trans f1);have q2:=R5 (e1.symm.trans f2);have q3:=R5 (e1.symm.trans f3);subst q1 q2 q3;refine ⟨o,e1,?_⟩
 have key:jP 21 o+jP 22 o+jP 23 o+jP 24 o<=qo o:=by
  clear e1 c1 f1 g1 f2 g2 f3 g3
  induction o with
  |nil=>exact gt _
  |cons e o ih=>
   have hc:∀n:Int,jP n (e :: o)=jP n o+(if e.k=1/\e.n=n then 1 else 0):=by
    intro n;unfold jP;rw [RY];simp
   have ho:qo (e :: o)=qo o+(if e.k=1 then 1 else 0):=by unfold qo;rw [RY];simp
   rw [hc,hc,hc,hc,ho]
   by_cases hk:e.k=1
   ·simp only [hk,true_and,Td]
    repeat' split
    all_goals omega
   ·simp only [hk,false_and,R8];omega
 omega
end Go.Proofs.YtjiepkenkcgkhaaGreatDoor
namespace Go.Proofs.YtjiepkenkcgkhaaGreatDoor
open Go.RowKit
open Lw (Dc bE rt cy dh eZ ij ji ud qc)
variable {o:List Ev}
def Px (d:Dc):Bool:=!(decide (d.k=6) || decide (d.k=7))
def fq (l:List Dc):Nat:=l.countP Px
theorem dj (a b:List Dc):fq (a++b)=fq a+fq b:=UQ ..
theorem gF (d:Dc) (b:List Dc):fq (d :: b)=fq b+(if Px d=true then 1 else 0):=RY ..
theorem iW (d:Dc):fq [d]<=1:=by rw [gF];split <;> simp [fq]
def Pz.nb (p:Pz):Nat:=match p with|.S=>1|.B0=>1|.B1=>1|.H=>1|_=>0
def KE (l:List Pz):Nat:=(l.map Pz.nb).sum
theorem OW (s:Sy) (p:Pz):fq (s.aw p).ws<=fq s.ws+p.nb:=by
 rw [ru,dj]
 have:fq (jB p s.ns)<=p.nb:=by
  unfold jB
  split
  ·exact QK _
  ·cases p <;> exact gt _
 omega
theorem yd (l:List Pz):∀s:Sy,fq (s.aws l).ws<=fq s.ws+KE l:=by
 induction l with
 |nil=>intro s;exact gt _
 |cons p l ih=>
  intro s;rw [bZ];have h1:=ih (s.aw p);have h2:=OW s p;have h3:KE (p :: l)=p.nb+KE l:=rfl;omega
theorem KP (a:Fx):KE a.pz<=1:=by cases a <;> decide
def mo (l:List Nd):Nat:=l.countP (fun n=>decide (n.k=1))
def fP (s:Sy):Nat:=fq s.ws+mo s.ns
theorem IJ (p:Pz) (l:List Nd):mo (ia p l)=mo l:=by
 cases l with
 |nil=>rfl
 |cons n r=>simp only [ia];split <;> (unfold mo;rw [RY,RY])
theorem II (l:List Pz):∀s:Sy,mo (s.aws l).ns=mo s.ns:=by
 induction l with
 |nil=>intro s;rfl
 |cons p l ih=>intro s;rw [bZ,ih];exact IJ p s.ns
theorem si (s:Sy) (l:List Pz):fP (s.aws l)<=fP s+KE l:=by
 unfold fP;rw [II];have:=yd l s;omega
theorem xw (s:Sy):fP s.exprIn<=fP s+1:=by
 unfold Sy.exprIn
 split
 ·omega
 ·rename_i n r e
  have hp:mo (⟨n.k,(if n.k=19 then n.b+1 else n.b),true⟩ :: r)=mo s.ns:=by rw [e];unfold mo;rw [RY,RY]
  show fq (if n.k=19 then s.aws [.S,.I 3] else if n.k=31/\n.s=false then s.aws [.B0] else s).ws+mo (⟨n.k,(if n.k=19 then n.b+1 else n.b),true⟩ :: r)<=_
  rw [hp];unfold fP
  split
  ·have:=yd [.S,.I 3] s;have:KE [.S,.I 3]=1:=rfl;omega
  ·split
   ·have:=yd [.B0] s;have:KE [.B0]=1:=rfl;omega
   ·omega
def NS (k:Int):Nat:=(if k=21 then 1 else 0)+(if k=1 then 1 else 0)
theorem Bi (s:Sy) (k:Int):fP (s.opens k)<=fP s+NS k:=by
 obtain ⟨s1,hs1⟩:∃s1,(if k=21 then s.exprIn else s)=s1:=⟨_,rfl⟩
 have h1:fP s1<=fP s+(if k=21 then 1 else 0):=by
  rw [<-hs1];split
  ·exact xw s
  ·omega
 have h2:fP (s1.mark k)=fP s1:=by unfold Sy.mark;split <;> rfl
 have e:s.opens k=Sy.aws { (s1.mark k) with ns:=⟨k,0,false⟩ :: (s1.mark k).ns } (qm k):=by unfold Sy.opens;simp only;rw [hs1]
 rw [e];have h3:=si { (s1.mark k) with ns:=⟨k,0,false⟩ :: (s1.mark k).ns } (qm k);have h4:KE (qm k)=0:=by unfold qm;split;rfl;split <;> rfl
 have h5:fP ({ (s1.mark k) with ns:=⟨k,0,false⟩ :: (s1.mark k).ns }:Sy)=fP (s1.mark k)+(if k=1 then 1 else 0):=by
  show fq (s1.mark k).ws+mo (⟨k,0,false⟩ :: (s1.mark k).ns)=fq (s1.mark k).ws+mo (s1.mark k).ns+_
  unfold mo;rw [RY];simp;omega
 unfold NS;omega
theorem xv (s:Sy):fP s.leaves<=fP s:=by
 unfold Sy.leaves
 split
 ·omega
 ·rename_i n r e
  show fq (s.ws++List.replicate n.b dX++(if n.k=1 then [dH] else []))+mo r<=_
  have hp:mo s.ns=mo r+(if n.k=1 then 1 else 0):=by rw [e];unfold mo;rw [RY];simp
  have hr:fq (List.replicate n.b dX)=0:=by unfold fq;rw [List.countP_replicate];rfl
  unfold fP;rw [dj,dj,hr,hp]
  split
  ·have:=iW dH;omega
  ·show _+0+fq []+_<=_;have:fq []=0:=rfl;omega
theorem Bh (s:Sy) (a:Fx) (f:Int):fP (s.ready a f)<=fP s+4:=by
 have h1:=si s a.pz;have hf:=KP a
 have e1:fP ((s.aws a.pz).emp f)<=fP (s.aws a.pz)+1:=by
  unfold Sy.emp
  split
  ·omega
  ·split
   ·omega
   ·rename_i m _ _
    show fq ((s.aws a.pz).ws.take m++dE :: (s.aws a.pz).ws.drop m)+mo (s.aws a.pz).ns<=_
    have hx:fq (s.aws a.pz).ws=fq ((s.aws a.pz).ws.take m)+fq ((s.aws a.pz).ws.drop m):=by rw [<-dj,RJ]
    unfold fP;rw [dj,gF,hx]
    split <;> omega
 have e2:∀u:Sy,fP u.endl<=fP u+1:=fun u=>by
  unfold Sy.endl
  split
  ·show fq (dH :: u.ws)+mo u.ns<=_;unfold fP;rw [gF];split <;> omega
  ·omega
 have e3:∀u:Sy,fP u.part<=fP u+1:=fun u=>by
  unfold Sy.part
  split
  ·show fq (u.ws++[dS])+mo u.ns<=_;unfold fP;rw [dj];have:=iW dS;omega
  ·omega
 unfold Sy.ready;have:=e3 ((s.aws a.pz).emp f).endl;have:=e2 ((s.aws a.pz).emp f);omega
theorem D3 (s:Sy) (t:Tv):fq (s.leaf t).2+fP (s.leaf t).1<=fP s+6:=by
 unfold Sy.leaf
 split
 ·have h0:fq ([]:List Dc)=0:=rfl;show fq []+fP s<=fP s+6;omega
 ·rename_i n r e
  have h1:=Bh s (aG n t).a t.f;have h2:=si ⟨(s.ready (aG n t).a t.f).ns,[],none,true,false,false⟩ (aG n t).b.pz;have h3:=KP (aG n t).b
  have h4:fP ⟨(s.ready (aG n t).a t.f).ns,[],none,true,false,false⟩=mo (s.ready (aG n t).a t.f).ns:=by
   have h0:fq ([]:List Dc)=0:=rfl;show fq []+mo (s.ready (aG n t).a t.f).ns=mo (s.ready (aG n t).a t.f).ns;omega
  show fq ((s.ready (aG n t).a t.f).ws++[dT t.t])+fP (Sy.aws ⟨(s.ready (aG n t).a t.f).ns,[],none,true,false,false⟩ (aG n t).b.pz)<=_
  rw [dj];have:=iW (dT t.t);have h5:fP (s.ready (aG n t).a t.f)=fq (s.ready (aG n t).a t.f).ws+mo (s.ready (aG n t).a t.f).ns:=rfl;omega
theorem D2 (s:Sy) (t:Tv):fq (s.note t).2+fP (s.note t).1<=fP s+6:=by
 have hx:fq s.ws=fq (s.ws.takeWhile be)+fq (s.ws.dropWhile be):=by rw [<-dj,S8]
 have a1:=iW (dT t.t);have a2:=iW dS;unfold Sy.note;simp only
 split
 ·show fq (s.ws.takeWhile be++[dS,dT t.t])+(fq (s.ws.dropWhile be)+mo s.ns)<=_
  unfold fP;rw [dj,show ([dS,dT t.t]:List Dc)=[dS]++[dT t.t] from rfl,dj,hx];omega
 ·show fq (s.ws.takeWhile be++dH :: ((if _ then [dE] else [])++[dT t.t]))+(fq (s.ws.dropWhile be)+mo s.ns)<=_
  unfold fP;rw [dj,gF,dj,hx];have a3:=iW dE;have a4:fq ([]:List Dc)=0:=rfl
  split <;> split <;> omega
def ND (e:Ev):Nat:=if e.k=1 then NS e.n else if e.k=3 then 0 else 6
def tT (E:List Ev):Nat:=(E.map ND).sum
theorem mP (a b:List Ev):tT (a++b)=tT a+tT b:=by unfold tT;rw [Su,Vh]
theorem IE {s s':Sy}{e:Ev}{l:List Dc}(h:dy s e=some (s',l)):fq l+fP s'<=fP s+ND e:=by
 unfold dy at h
 split at h
 ·have h':=Ry h;obtain ⟨e1,e2⟩:(s.step e).1=s'/\(s.step e).2=l:=⟨by rw [h'],by rw [h']⟩;rw [<-e1,<-e2];unfold Sy.step ND
  split
  ·have h1:=Bi s e.n;have h0:fq ([]:List Dc)=0:=rfl;show fq []+fP (s.opens e.n)<=fP s+NS e.n;omega
  ·split
   ·have h1:=xv s;have h0:fq ([]:List Dc)=0:=rfl;show fq []+fP s.leaves<=fP s+0;omega
   ·split
    ·exact D3 s e.d
    ·exact D2 s e.d
 ·cases h
theorem ym:∀(E:List Ev) {s:Sy}{L:List Dc},cK s E=some L->fq L<=fP s+tT E+1
 |[],s,L,h=>by
  have h':ic s=some L:=h;unfold ic at h'
  split at h'
  ·cases h';unfold Sy.endl;unfold fP
   split
   ·show fq (dH :: s.ws)<=_;rw [gF];split <;> omega
   ·omega
  ·cases h'
 |e :: E,s,L,h=>by
  rw [gG] at h;cases hp:dy s e with
  |none=>rw [hp] at h;cases h
  |some x=>
   obtain ⟨s1,l⟩:=x;rw [hp] at h;simp only at h;obtain ⟨L1,h1,h2⟩:=Q9.1 h;have a1:=ym E h1;have a2:=IE hp;have a3:tT (e :: E)=ND e+tT E:=rfl;rw [<-h2,dj];omega
theorem GZ (hB:nY o):tT o<=jP 21 o+jP 1 o:=by
 induction o with
 |nil=>exact gt _
 |cons e o ih=>
  have h1:=ih (fun x hx=>hB x (QO _ hx))
  have hc:∀n:Int,jP n (e :: o)=jP n o+(if e.k=1/\e.n=n then 1 else 0):=by
   intro n;unfold jP;rw [RY];simp
  have hw:tT (e :: o)=ND e+tT o:=rfl;rw [hw,hc,hc];unfold ND NS
  rcases hB e (QN ..) with hk|hk
  ·simp only [hk,true_and,Td]
   repeat' split
   all_goals omega
  ·rw [Eq (by omega),IO hk]
   repeat' split
   all_goals omega
theorem Gr:∀(l:List Tv) (K:List It) (n:Int) (E:List Ev) (a:Nat),gA (.live K n) l E 0 a->fX (.live K n)->tT E<=8*l.length+tT (bK n)
 |[],K,n,E,a,hA,hg=>by
  obtain ⟨hc,_⟩:=hA.end;cases hc with
  |all hK=>exact QK _
 |t :: l,K,n,E,a,hA,hg=>by
  rcases hA.inv with ⟨_,_,_,hc,_⟩|⟨ev,st',E2,k2,hp,hA2,rfl,rfl⟩
  ·exact absurd rfl hc
  ·obtain ⟨b1,b2,b3,b4,b5,hbot,hbn,hbe⟩:=cG hg;have hgk:=(dF hg hp).1
   have key:tT ev<=8+tT (bK n)/\∃K' n',st'=.live K' n'/\n'≠0:=by
    cases hp with
    |note hc=>
     rw [mP];have:tT [⟨4,0,t⟩]=6:=rfl;refine ⟨by omega,_,_,rfl,?_⟩;unfold gh
     split
     ·decide
     ·rename_i hn;simpa using hn
    |yes hc hR hkk hm=>
     obtain ⟨_,_,d3,o,d4,_,d6,_⟩:=eu hR rfl b1 b2 b3;have hbl:=iT (oI hR rfl hbot);obtain ⟨o2,f1,f2⟩:=If hR b1;rw [d4] at f1;have q:=R5 f1;subst q;have hBo:nY o:=fun e he=>(d6 e he).2.1
     have h1:=GZ hBo
     have h2:jP 1 o=0:=by
      unfold jP;rw [List.countP_eq_zero];intro e he;have:=(d6 e he).2.2;simp;exact this
     rw [d4,mP,mP];have:tT [⟨2,0,t⟩]=6:=rfl;exact ⟨by omega,_,_,rfl,by omega⟩
   obtain ⟨k1,K',n',rfl,hn'⟩:=key;have h2:=Gr l K' n' E2 k2 hA2 hgk
   have h3:tT (bK n')=0:=by
    unfold bK;rw [Eq (by simpa using hn')];rfl
   rw [mP,List.length_cons];omega
def C5 (l:List ByteArray):Nat:=(l.map (·.size)).sum
theorem Hk (a b:List ByteArray):C5 (a++b)=C5 a+C5 b:=by unfold C5;rw [Su,Vh]
theorem CN:∀(L:List Dc),(∀d∈L,rt d=true)->qc L<=1001*fq L+2*C5 (oi L)
 |[],_=>by simp [qc,fq,oi,C5]
 |d :: L,h=>by
  have ih:=CN L (fun x hx=>h x (QO _ hx));have e1:qc (d :: L)=ud d+qc L:=rfl;have e2:oi (d :: L)=oi [d]++oi L:=by rw [<-j9];rfl
  rw [e1,gF,e2,Hk]
  have key:ud d<=(if Px d=true then 1001 else 0)+2*C5 (oi [d]):=by
   cases Lw.mj (h d (QN ..)) with
   |text t hq=>
    have:oi [⟨1,t,0,0,false⟩]=[t]:=rfl;rw [this];show 2*t.size+1001<=1001+2*(t.size+0);omega
   |brk n hq=>exact gt _
   |beg n e hq=>exact gt _
   |blank=>exact gt _
   |hard=>exact gt _
   |empty=>exact gt _
   | «end»=>exact gt _
  split at key <;> rename_i hc
  ·rw [IO hc];omega
  ·rw [Eq hc];omega
theorem ur:∀(E:List Ev) {L0 L:List Dc}{s:Sy},eL L0 s->cK s E=some L->oi L=E.flatMap MP
 |[],L0,L,s,hS,h=>(yE hS h).2
 |e :: E,L0,L,s,hS,h=>by
  rw [gG] at h;cases hp:dy s e with
  |none=>rw [hp] at h;cases h
  |some x=>
   obtain ⟨s1,l⟩:=x;rw [hp] at h;simp only at h;obtain ⟨L1,h1,h2⟩:=Q9.1 h;obtain ⟨a1,a2,_⟩:=yD hS hp;rw [<-h2,j9,a2,ur E a1 h1];rfl
theorem J6 (hB:nY o):o.flatMap MP=[]:=by
 induction o with
 |nil=>rfl
 |cons e o ih=>
  rw [List.flatMap_cons,ih (fun x hx=>hB x (QO _ hx)),Rx];unfold MP
  rcases hB e (QN ..) with h|h
  ·rw [IO h]
  ·rw [Eq (by omega),IO h]
theorem Ak:∀(l:List Tv) (K:List It) (n:Int) (E:List Ev) (a:Nat),gA (.live K n) l E 0 a->fX (.live K n)->E.flatMap MP=l.map (·.t)
 |[],K,n,E,a,hA,hg=>by
  obtain ⟨hc,_⟩:=hA.end;cases hc with
  |all hK=>rfl
 |t :: l,K,n,E,a,hA,hg=>by
  rcases hA.inv with ⟨_,_,_,hc,_⟩|⟨ev,st',E2,k2,hp,hA2,rfl,rfl⟩
  ·exact absurd rfl hc
  ·obtain ⟨s,hs⟩:∃s:Sy,s.ks=bJ K:=⟨⟨(bJ K).map (fun k=>⟨k,0,false⟩),[],none,false,false,false⟩,by unfold Sy.ks;rw [Vf];exact List.map_id _⟩;obtain ⟨o,e,K',n',rfl,rfl,hg',hB,hn,hpl,hlen,rfl⟩:=yQ hg hs hp;rw [Ut,Ut,J6 hB,Ak l K' n' E2 k2 hA2 hg']
   have:MP ⟨if (t.k == 7 || t.k == 8)=true then 4 else 2,0,t⟩=[t.t]:=by
    by_cases hc:(t.k == 7 || t.k == 8)=true
    ·rw [IO hc];rfl
    ·rw [Eq hc];rfl
   rw [List.flatMap_cons,this];rfl
theorem nK (s:ByteArray):∀(d a f:Nat),s.size-a<=d->C5 ((Lx.gS s a f).1.map (fun t=>s.extract t.a t.e))<=s.size-a
 |d,a,f,hd=>by
  by_cases ha:s.size<=a
  ·rw [Lx.eC s a f ha];exact QK _
  ·cases d with
   |zero=>omega
   |succ d=>
   rw [Lx.ci s a f (by omega)]
   split
   ·have:=nK s d (a+1) (f+1) (by omega);omega
   ·split
    ·have:=nK s d (a+1) f (by omega);omega
    ·split
     ·exact QK _
     ·rename_i h3
      split
      ·exact QK _
      ·rename_i h4
       have he:Lx.ap s a (Lx.ak s a)=((Lx.ap s a (Lx.ak s a)).1,0):=UJ rfl (by simpa using h4);obtain ⟨hap,hp⟩:=Lx.ej s a _ _ (by omega) rfl h3 he;have ih:=nK s d (Lx.ap s a (Lx.ak s a)).1 0 (by omega);obtain ⟨p,hpp⟩:∃p,(Lx.ap s a (Lx.ak s a)).1=p:=⟨_,rfl⟩;rw [hpp] at hap hp ih ⊢
       have hte:(Lx.cM s (Lx.ak s a) a p f).e<=p:=by
        show (if Lx.ak s a=7 then Lx.aY s p else p)<=p
        split
        ·exact Lx.fO s p
        ·exact gt _
       have hsz:(s.extract (Lx.cM s (Lx.ak s a) a p f).a (Lx.cM s (Lx.ak s a) a p f).e).size<=p-a:=by
        rw [Lx.az s _ _ (by omega)];show (Lx.cM s (Lx.ak s a) a p f).e-a<=p-a;omega
       simp only [Sg];show (s.extract _ _).size+C5 _<=_;omega
termination_by d=>d
theorem CO {s:ByteArray}{E:List Ev}{a:Nat}{L:List Dc}(hA:gA (.live [] 0) (eY s) E 0 a) (hL:cK qd E=some L) (hs:s.size<=262144) (hl:(eY s).length<=s.size):qc L<=2147483647/\∀d∈L,rt d=true:=by
 have hf:cy 0 0 L=none:=by have h:=ki E kh hL;rw [Rr] at h;exact h
 have hr:=Lw.sQ L 0 0 hf;have h1:=CN L hr;have h2:=ym E hL;have h3:=Gr _ _ _ _ _ hA fj;have h31:tT (bK 0)=1:=rfl;have h4:oi L=(eY s).map (·.t):=by rw [ur E kh hL];exact Ak _ _ _ _ _ hA fj
 have h5:C5 ((eY s).map (·.t))<=s.size:=by
  have:=nK s _ 0 0 (gt _);show C5 (((Lx.fu s).1.map (Lx.tv s)).map (·.t))<=_;rw [Vf];have e:(fun t:Tv=>t.t) ∘ Lx.tv s=fun t=>s.extract t.a t.e:=rfl
  rw [e];exact this
 have h6:fP qd=0:=rfl;rw [h4] at h1;exact ⟨by omega,hr⟩
end Go.Proofs.YtjiepkenkcgkhaaGreatDoor
namespace Go.Proofs.YtjiepkenkcgkhaaGreatDoor
open Go.RowKit
theorem Lb:∀(l:List Tv) (K:List It) (n:Int) (E:List Ev) (a:Nat),gA (.live K n) l E 0 a->fX (.live K n)->∀e∈E,e.d=aB\/e.d∈l
 |[],K,n,E,a,hA,hg=>by
  obtain ⟨hc,_⟩:=hA.end;cases hc with
  |all hK=>intro e he;simp at he;subst he;exact .inl rfl
 |t :: l,K,n,E,a,hA,hg=>by
  rcases hA.inv with ⟨_,_,_,hc,_⟩|⟨ev,st',E2,k2,hp,hA2,rfl,rfl⟩
  ·exact absurd rfl hc
  ·obtain ⟨b1,b2,b3,b4,b5,hbot,hbn,hbe⟩:=cG hg;have hgk:=(dF hg hp).1
   have hB:∀e∈bK n,e.d=aB:=by
    intro e he;unfold bK at he
    split at he
    ·simp at he;subst he;rfl
    ·simp at he
   have key:∀e∈ev,e.d=aB\/e.d=t:=by
    cases hp with
    |note hc=>
     intro e he
     rcases Q6.1 he with he|he
     ·exact .inl (hB e he)
     ·simp at he;subst he;exact .inr rfl
    |yes hc hR hkk hm=>
     obtain ⟨_,_,_,o,d4,_,d6,_⟩:=eu hR rfl b1 b2 b3;intro e he;rw [d4] at he
     rcases Q6.1 he with he|he
     ·rcases Q6.1 he with he|he
      ·exact .inl (hB e he)
      ·exact .inl (d6 e he).1
     ·simp at he;subst he;exact .inr rfl
   obtain ⟨K',n',rfl⟩:∃K' n',st'=.live K' n':=by
    cases hp with
    |note _=>exact ⟨_,_,rfl⟩
    |yes _ _ _ _=>exact ⟨_,_,rfl⟩
   intro e he
   rcases Q6.1 he with he|he
   ·exact (key e he).imp id (fun h=>by rw [h];exact QN ..)
   ·exact (Lb l K' n' E2 k2 hA2 hgk e he).imp id (QO _)
theorem LF (s:ByteArray):∀t∈eY s,t.t.size<=s.size:=by
 intro t ht;obtain ⟨x,hx,rfl⟩:=Tm.1 ht;obtain ⟨_,h1,h2⟩:=Lx.iL s _ 0 0 (gt _) x hx;show (s.extract x.a x.e).size<=_;rw [Lx.az s x.a x.e h2];omega
theorem mR (s:ByteArray):(eY s).length<=s.size:=by
 have key:∀(d a f:Nat),s.size-a<=d->(Lx.gS s a f).1.length<=s.size-a:=by
  intro d
  induction d with
  |zero=>intro a f h;rw [Lx.eC s a f (by omega)];exact QK _
  |succ d ih=>
   intro a f h
   by_cases ha:s.size<=a
   ·rw [Lx.eC s a f ha];exact QK _
   ·rw [Lx.ci s a f (by omega)]
    split
    ·have:=ih (a+1) (f+1) (by omega);omega
    ·split
     ·have:=ih (a+1) f (by omega);omega
     ·split
      ·exact QK _
      ·rename_i h3
       split
       ·exact QK _
       ·rename_i h4
        have he:Lx.ap s a (Lx.ak s a)=((Lx.ap s a (Lx.ak s a)).1,0):=UJ rfl (by simpa using h4);obtain ⟨hap,hp⟩:=Lx.ej s a _ _ (by omega) rfl h3 he;have:=ih (Lx.ap s a (Lx.ak s a)).1 0 (by omega);simp only [List.length_cons];omega
 show ((Lx.fu s).1.map (Lx.tv s)).length<=_
 rw [Ux];exact key _ 0 0 (gt _)
end Go.Proofs.YtjiepkenkcgkhaaGreatDoor
namespace Go.Proofs.YtjiepkenkcgkhaaGreatDoor
open Go.RowKit
open Lw (Dc bE rt cy dh eZ ij ji ud qc)
variable {b:Bool}{l l':List Tv}
theorem LZ (h:Rl b l l'):l'.length=l.length:=by
 induction h with
 |nil=>rfl
 |cons _ _ _ _ ih=>simp [ih]
theorem Oa (h:Rl b l l'):∀{j:Nat}{t t':Tv},l[j]?=some t->l'[j]?=some t'->t'.k=t.k/\t'.t=t.t/\(b=true\/0<j->gE t->(t.f=0↔t'.f=0)):=by
 induction h with
 |nil=>intro j t t' h;simp at h
 |cons e1 e2 e3 _ ih=>
  intro j t t' h1 h2;cases j with
  |zero=>
   simp at h1 h2;subst h1 h2;exact ⟨e1,e2,fun hb hn=>e3 (hb.resolve_right (by omega)) hn⟩
  |succ j=>
   obtain ⟨a1,a2,a3⟩:=ih (j:=j) (by simpa using h1) (by simpa using h2);exact ⟨a1,a2,fun _ hn=>a3 (.inl rfl) hn⟩
theorem N9 {d:Dc}(h:rt d=true):d.t.size<=9223372036854775807:=by
 cases Lw.mj h with
 |text t hq=>have:=(Lw.mV hq).2;show t.size<=_;omega
 |_=>show (bE).size<=_;exact QK _
structure QG (s T:ByteArray):Prop where
 len:(eY T).length=(eY s).length
 at_:∀(j:Nat) t t',(eY s)[j]?=some t->(eY T)[j]?=some t'->t'.k=t.k/\t'.t=t.t/\(0<j->gE t->(t.f=0↔t'.f=0))
structure Fd (s:ByteArray) (E:List Ev) (L:List Dc):Prop where
 sz:s.size<=262144
 sc:(Lx.fu s).2.1=0
 al:∃a,gA (.live [] 0) (eY s) E 0 a
 ly:cK qd E=some L
abbrev wo (n:Int) (L:List Dc):ByteArray:=⟨(Lw.ik n.toNat L).toArray⟩
end Go.Proofs.YtjiepkenkcgkhaaGreatDoor
