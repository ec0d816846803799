import Derived.Deep.QuietTactic
import Derived.BigQuiet
import Derived.Test.YtcmbkeghnmgbfaaGreatDoorM02
set_option linter.all false
set_option maxHeartbeats 1000000
namespace Go.Proofs.YtcmbkeghnmgbfaaGreatDoor.Lx
open Go.Proofs.Tryz
open Go.RowKit
variable {s x:ByteArray}{b z c m:Nat}{p:Int}
def AQ (p:Int):Prop:=(65<=p/\p<=90)\/(97<=p/\p<=122)\/(192<=p/\p<=214)\/(216<=p/\p<=246)\/(248<=p/\p<=591)\/(913<=p/\p<=929)\/(931<=p/\p<=974)\/(1024<=p/\p<=1119)\/(1488<=p/\p<=1514)\/(1568<=p/\p<=1610)\/(2308<=p/\p<=2361)\/(12353<=p/\p<=12438)\/(12449<=p/\p<=12538)\/(19968<=p/\p<=40959)\/(44032<=p/\p<=55203)\/(66560<=p/\p<=66639)\/(131072<=p/\p<=196607)
def CI (p:Int):Prop:=(48<=p/\p<=57)\/(95<=p/\p<=95)\/(768<=p/\p<=879)
instance (p:Int):Decidable (AQ p):=by unfold AQ;infer_instance
instance (p:Int):Decidable (CI p):=by unfold CI;infer_instance
def us (p:Int):Int:=if AQ p then 2 else if CI p then 1 else 0
def ng (p:Int):Bool:=decide (AQ p)
def jL (p:Int):Bool:=ng p||decide (CI p)
theorem Gk (h:AQ p):us p=2:=by unfold us;rw[Kd h]
theorem Gl (h:CI p):us p=1:=by
 unfold us;rw[IO (by unfold CI at h;unfold AQ;omega),Kd h]
theorem IB (h:¬AQ p) (u:¬CI p):us p=0:=by unfold us;rw[IO h,IO u]
theorem IC (p:Int):(us p==2)=ng p:=by
 unfold us ng
 by_cases h:AQ p
 ·rw[Kd h,Ku h];rfl
 ·rw[IO h,Kr h];split<;>rfl
theorem IA (p:Int):(us p != 0)=jL p:=by
 unfold us jL ng
 by_cases h:AQ p
 ·rw[Kd h,Ku h];rfl
 ·rw[IO h,Kr h]
  by_cases u:CI p
  ·rw[Kd u,Ku u];rfl
  ·rw[IO u,Kr u];rfl
theorem Ca (i:Nat) (p:Int) (G:i<20) (u:vX i<=p) (F:p<=yM i):In i=us p:=by
 rcases i with _|_|_|_|_|_|_|_|_|_|_|_|_|_|_|_|_|_|_|_|i
 all_goals simp[vX,yM,In,fF,List.getD]at u F ⊢
 all_goals first|exact(Gk (by unfold AQ;omega)).symm|exact(Gl (by unfold CI;omega)).symm|omega
theorem Cb (p:Int) (h:∀k,k<20->p<vX k\/yM k<p):us p=0:=by
 have a0:=h 0 (by omega);have a1:=h 1 (by omega);have a2:=h 2 (by omega);have a3:=h 3 (by omega);have a4:=h 4 (by omega);have a5:=h 5 (by omega);have a6:=h 6 (by omega);have a7:=h 7 (by omega);have a8:=h 8 (by omega);have a9:=h 9 (by omega);have u:=h 10 (by omega);have F:=h 11 (by omega);have G:=h 12 (by omega);have H:=h 13 (by omega);have I:=h 14 (by omega);have J:=h 15 (by omega);have M:=h 16 (by omega);have O:=h 17 (by omega);have aa:=h 18 (by omega);have ab:=h 19 (by omega);simp only[vX,yM,fF,List.getD,List.getElem?_cons_zero,Mz,NS]at a0 a1 a2 a3 a4 a5 a6 a7 a8 a9 u F G H I J M O aa ab;refine IB ?_ ?_
 ·unfold AQ;omega
 ·unfold CI;omega
theorem EX (i k:Nat) (u:k<20) (h:i<=k):vX i<=vX k:=by
 have:∀k,k<20->∀i,i<20->i<=k->vX i<=vX k:=by decide +kernel
 exact this k u i (by omega) h
theorem nC (i:Nat) (p:Int) (h:∀k,k<i->yM k<p) (F:i<20->p<vX i):us p=0:=by
 refine Cb p fun k G=>?_
 by_cases u:k<i
 ·exact .inr (h k u)
 ·have:=F (by omega);have:=EX i k G (by omega);omega
theorem lB {a b:Int}(h:a=b):Ending.returned (.int .i64 a)=.returned (.int .i64 b):=by rw[h]
theorem gj {a b:Bool}(h:a=b):Ending.returned (.bool a)=.returned (.bool b):=by rw[h]
theorem uy (p:Int) (w:World) (I:si w) :
  Kb 104 #[.int .i64 p] w fun e w'=>e=.returned (.int .i64 (us p))/\w'=w:=by
 go_enter func104,ntmps104
 go_wp2_with fail
 go_loopw [4] (fun i wr=>wr=w/\∃k:Nat,k<=20/\i=.int .i64 k/\∀j,j<k->yM j<p) (fun i _=>20-(intOf i).toNat)
 case atStart=>exact⟨rfl,0,by omega,rfl,fun j hj=>by omega⟩
 case round=>
  obtain⟨rfl,k,hk,rfl,F⟩:=hrel
  by_cases G:k<20
  ·obtain⟨c0,c1,c2⟩:=I k G;have HA:=ku F;have J:=ku (Ca k p G);have H:Hid (p<vX k->us p=0):=fun h=>nC k p F (fun _=>h)
   have M:Hid (yM k<p->∀j,j<k+1->yM j<p):=fun h j hj=>by
    by_cases e:j=k
    ·subst e;exact h
    ·exact F j (by omega)
   clear F I
   generalize vX k=l at *
   generalize In k=c at *
   generalize yM k=u at *
   by_cases O:p<l
   ·go_wp2_with fail
    go_ret
    exact⟨lB (H.out O).symm,rfl⟩
   ·by_cases h2:p<=u
    ·go_wp2_with fail
     go_ret
     exact⟨lB (J.out (by omega) h2),rfl⟩
    ·go_wp2_with fail
     exact⟨⟨trivial,k+1,by omega,by go_num,M.out (by omega)⟩,by simp[intOf];omega⟩
  ·have H:=ku (nC k p F (fun h=>absurd h G));clear F I
   go_wp2_with fail
   go_ret
   exact⟨lB H.out.symm,rfl⟩
theorem tL (p:Int) (w:World) (G:si w) :
  Kb 110 #[.int .i64 p] w fun e w'=>e=.returned (.bool (ng p))/\w'=w:=by
 go_enter func110,ntmps110
 go_wp2_with fail
 refine(uy p w G).mono ?_;rintro e w'⟨rfl,rfl⟩;have F:=ku (IC p)
 generalize us p=u at *
 go_wp2_with fail
 go_ret
 exact⟨gj F.out,rfl⟩
theorem Az (p:Int) (w:World) (G:si w) :
  Kb 63 #[.int .i64 p] w fun e w'=>e=.returned (.bool (jL p))/\w'=w:=by
 go_enter func63,ntmps63
 go_wp2_with fail
 refine(uy p w G).mono ?_;rintro e w'⟨rfl,rfl⟩;have F:=ku (IA p)
 generalize us p=u at *
 go_wp2_with fail
 go_ret
 exact⟨gj F.out,rfl⟩
open Go.RowKit Go.Deep
theorem iX {w v:World}(h:Below b w v):∀m,Below b w (v.drewN m)
 |0=>h
 |m+1=>(iX h m).drew
def ky (s:ByteArray):Bool:=cu.any fun x=>decide (s=x)
theorem El (s:ByteArray) (h:∀j,j<24->s≠cu.getD j ByteArray.empty):ky s=false:=by
 unfold ky;rw[List.any_eq_false];intro x G H;obtain⟨j,F,e⟩:=List.mem_iff_getElem.1 G;have u:j<24:=F
 apply h j u
 rw[List.getD,Ke F];exact(KQ H).trans e.symm
theorem GZ (s:ByteArray) (j:Nat) (u:j<24) (h:s=cu.getD j ByteArray.empty):ky s=true:=by
 unfold ky;rw[O0];refine⟨cu[j]'u,List.getElem_mem _,Ku ?_⟩;rw[h,List.getD,Ke (show j<cu.length from u)];rfl
theorem nO (h:s=x):(s.toList==x.toList)=true:=by subst h;simp
theorem j8 (s:ByteArray):s.toList=s.data.toList:=Mb s
theorem kM (h:s≠x):(s.toList==x.toList)=false:=by
 rw[Kk,j8,j8];intro e
 apply h
 have:=L4.1 e;cases s;cases x;simp_all
theorem yj (s:ByteArray) (w:World) (H:ur w) :
  Kb 107 #[.string s] w fun e w'=>e=.returned (.bool (ky s))/\w'=w:=by
 go_enter func107,ntmps107
 go_wp2_with fail
 go_loopw [4] (fun i wr=>wr=w/\∃k:Nat,k<=24/\i=.int .i64 k/\∀j,j<k->s≠cu.getD j ByteArray.empty) (fun i _=>24-(intOf i).toNat)
 case atStart=>exact⟨rfl,0,by omega,rfl,fun j I=>by omega⟩
 case round=>
  obtain⟨rfl,k,hk,rfl,u⟩:=hrel
  by_cases F:k<24
  ·have c0:=H k F;have J:=ku (GZ s k F)
   have O:Hid (s≠cu.getD k ByteArray.empty->∀j,j<k+1->s≠cu.getD j ByteArray.empty):=fun h j I=>by
    by_cases e:j=k
    ·subst e;exact h
    ·exact u j (by omega)
   clear u H
   generalize cu.getD k ByteArray.empty=x at *
   by_cases e:s=x
   ·have e1:=nO e;have G:=ku e;clear e
    go_wp2_with fail
    go_ret
    exact⟨gj (J.out G.out).symm,rfl⟩
   ·have e1:=kM e;have G:=ku e;clear e
    go_wp2_with fail
    exact⟨⟨trivial,k+1,by omega,by go_num,O.out G.out⟩,by simp[intOf];omega⟩
  ·have M:=ku (El s (fun j I=>u j (by omega)));clear u H
   go_wp2_with fail
   go_ret
   exact⟨gj M.out.symm,rfl⟩
def pre (s:ByteArray) (a:Nat) (t:ByteArray):Bool:=decide (a+t.size<=s.size/\s.extract a (a+t.size)=t)
def sg (s:ByteArray) (a:Nat):ByteArray:=(ba.find? (pre s a)).getD ByteArray.empty
theorem rC (f:ByteArray->Bool):∀(l:List ByteArray) (k:Nat),k<l.length->(∀j,j<k->f (l.getD j ByteArray.empty)=false)->f (l.getD k ByteArray.empty)=true->l.find? f=some (l.getD k ByteArray.empty)
 |[],k,h,_,_=>by simp at h
 |x :: r,0,_,_,h=>by
  have u:f x=true:=h;rw[List.find?_cons_of_pos u];rfl
 |x :: r,k+1,hk,hj,h=>by
  have F:f x=false:=hj 0 (by omega);rw[List.find?_cons_of_neg (by rw[F];simp)];exact rC f r k (by simpa using hk) (fun j G=>hj (j+1) (by omega)) h
theorem yx (f:ByteArray->Bool) (l:List ByteArray) (h:∀j,j<l.length->f (l.getD j ByteArray.empty)=false):l.find? f=none:=by
 rw[List.find?_eq_none];intro x F;obtain⟨j,u,e⟩:=List.mem_iff_getElem.1 F;have:=h j u;rw[List.getD,Ke u]at this;subst e
 simpa using this
theorem Gy (s:ByteArray) (a k:Nat) (F:k<21) (h:∀j,j<k->pre s a (ba.getD j ByteArray.empty)=false) (u:pre s a (ba.getD k ByteArray.empty)=true):sg s a=ba.getD k ByteArray.empty:=by
 unfold sg;rw[rC _ ba k F h u];rfl
theorem DC (s:ByteArray) (a:Nat) (h:∀j,j<21->pre s a (ba.getD j ByteArray.empty)=false):sg s a=ByteArray.empty:=by
 unfold sg;rw[yx _ ba h];rfl
theorem BD (s:ByteArray) (a n:Nat) (h:a+n<=s.size):(s.extract a s.size).extract 0 n=s.extract a (a+n):=by
 refine aU _ _ ?_ ?_
 ·rw[ag _ 0 n (by rw[ag s a _ (ge _)];omega),ag s a _ h];omega
 ·intro i u;rw[ag _ 0 n (by rw[ag s a _ (ge _)];omega)]at u;rw[aB _ 0 n i (by omega),aB s a _ _ (by omega),aB s a _ _ (by omega),Km]
theorem Es (s t:ByteArray) (w:World) :
  Kb 183 #[.string s,.string t] w fun e w'=>e=.returned (.bool (pre s 0 t))/\w'=w:=by
 by_cases H:t.size<=s.size
 ·have G:decide ((s.size:Int)>=(t.size:Int))=true:=by simpa using H
  have J:(0:Int)<=(t.size:Int):=by omega
  have M:(t.size:Int)<=(s.size:Int):=by omega
  by_cases u:s.extract 0 t.size=t
  ·have I:=nO u
   have F:Hid (pre s 0 t=true):=by
    unfold pre;exact Ku ⟨by omega,by rw[Km];exact u⟩
   clear u
   go_enter func183,ntmps183
   go_wp2_with fail
   go_ret
   exact⟨gj F.out.symm,rfl⟩
  ·have I:=kM u
   have F:Hid (pre s 0 t=false):=by
    unfold pre;refine Kr fun h=>u ?_
    have:=h.2
    rwa [Km]at this
   clear u
   go_enter func183,ntmps183
   go_wp2_with fail
   go_ret
   exact⟨gj F.out.symm,rfl⟩
 ·have G:decide ((s.size:Int)>=(t.size:Int))=false:=by simp;omega
  have F:Hid (pre s 0 t=false):=by
   unfold pre;exact Kr fun h=>H (by have:=h.1;omega)
  go_enter func183,ntmps183
  go_wp2_with fail
  go_ret
  exact⟨gj F.out.symm,rfl⟩
theorem G4 (s t:ByteArray) (w:World) :
  Kb 147 #[.string s,.string t] w fun e w'=>e=.returned (.bool (pre s 0 t))/\w'=w:=by
 go_enter func147,ntmps147
 go_wp2_with fail
 refine(Es s t w).mono ?_;rintro e w'⟨rfl,rfl⟩
 generalize u:pre s 0 t=b
 have F:=ku u;clear u
 go_wp2_with fail
 go_ret
 exact⟨gj F.out.symm,rfl⟩
theorem Ap (s t:ByteArray) (a:Nat) (F:a<=s.size):pre (s.extract a s.size) 0 t=pre s a t:=by
 unfold pre;rw[ag s a _ (ge _)]
 by_cases h:a+t.size<=s.size
 ·rw[Km,BD s a t.size h];exact KR.2 ⟨fun⟨_,u⟩=>⟨h,u⟩,fun⟨_,u⟩=>⟨by omega,u⟩⟩
 ·rw[Kr (fun u=>h (by have:=u.1;omega)),Kr (fun u=>h u.1)]
theorem uO (s:ByteArray) (a:Nat) (w:World) (J:lW w) (ha:a<s.size) :
  Kb 108 #[.string s,.int .i64 a] w fun e w'=>e=.returned (.string (sg s a))/\Kc w w':=by
 have h1:decide ((a:Int)<0)=false:=by simp
 have h2:decide ((a:Int)>=(s.size:Int))=false:=by simp;omega
 have h3:(0:Int)<=(a:Int):=by omega
 have h4:(a:Int)<=(s.size:Int):=by omega
 go_enter func108,ntmps108
 go_wp2_with fail
 go_loopw [14] (fun i wr=>∃k:Nat,k<=21/\i=.int .i64 k/\(∀j,j<k->pre s a (ba.getD j ByteArray.empty)=false)/\Kc w wr) (fun i _=>21-(intOf i).toNat)
 case atStart=>exact⟨0,by omega,rfl,fun j hj=>by omega,gt _ _⟩
 case round=>
  obtain⟨k,hk,rfl,u,H⟩:=hrel
  by_cases G:k<21
  ·have c0:=(J.below H) k G;have i1:(0:Int)<=(k:Int):=by omega
   have i2:(k:Int)<21:=by omega
   have M:=ku (Gy s a k G u)
   have O:Hid (pre s a (ba.getD k ByteArray.empty)=false->∀j,j<k+1->pre s a (ba.getD j ByteArray.empty)=false):=fun h j hj=>by
    by_cases e:j=k
    ·subst e;exact h
    ·exact u j (by omega)
   clear u J
   generalize ba.getD k ByteArray.empty=x at *
   have HC:Hid (∀W,Kb 147 #[.string (s.extract a s.size),.string x] W fun e w'=>e=.returned (.bool (pre s a x))/\w'=W):=fun W=>by
    rw[<-Ap s x a (by omega)];exact G4 _ _ W
   cases F:pre s a x
   ·rw[F]at HC;have I:=ku F;clear F M
    go_wp2_with fail
    go_quiet ((go_at_call 147;exact Calls.quiet_of_same (HC.out _)))
    go_wp2_with fail
    exact⟨⟨k+1,by omega,by go_num,O.out I.out,iX H _⟩,by simp[intOf];omega⟩
   ·rw[F]at HC;have I:=ku F;clear F O
    go_wp2_with fail
    go_quiet ((go_at_call 147;exact Calls.quiet_of_same (HC.out _)))
    go_wp2_with fail
    go_ret
    exact⟨by rw[M.out I.out];rfl,iX H _⟩
  ·have HM:=ku (DC s a (fun j hj=>u j (by omega)));clear u J
   go_wp2_with fail
   go_ret
   exact⟨by rw[HM.out];rfl,H⟩
def CH (s:ByteArray):Nat->Nat->Nat
 |0,i=>i
 |f+1,i=>if av s i=10 then i else CH s f (i+1)
def nl (s:ByteArray) (i:Nat):Nat:=CH s (s.size-i) i
theorem mY (s:ByteArray):∀f i,i<=CH s f i/\CH s f i<=i+f/\(∀j,i<=j->j<CH s f i->av s j≠10)/\(CH s f i<i+f->av s (CH s f i)=10)
 |0,i=>by
  show i<=i/\i<=i+0/\_/\_
  exact⟨ge _,ge _,fun j F u=>by unfold CH at u;omega,fun h=>by unfold CH at h;omega⟩
 |f+1,i=>by
  unfold CH
  by_cases h:av s i=10
  ·grind
  ·rw[IO h];obtain⟨F,u,G,H⟩:=mY s f (i+1);refine⟨by omega,by omega,fun j I J=>?_,fun I=>H (by omega)⟩
   by_cases e:j=i
   ·rw[e];exact h
   ·exact G j (by omega) J
theorem ga (s:ByteArray) (i:Nat) (h:i<=s.size):i<=nl s i/\nl s i<=s.size/\(∀j,i<=j->j<nl s i->av s j≠10)/\(nl s i<s.size->av s (nl s i)=10):=by
 obtain⟨u,I,F,G⟩:=mY s (s.size-i) i;exact⟨u,by unfold nl;omega,F,fun H=>G (by unfold nl at H;omega)⟩
theorem qQ (s:ByteArray) (i j:Nat) (h:i<=j) (M:j<=s.size) (I:∀k,i<=k->k<j->av s k≠10) (u:j=s.size\/av s j=10):nl s i=j:=by
 obtain⟨F,J,G,H⟩:=ga s i (by omega)
 rcases OB (nl s i) j with hl|hl|hl
 ·exact absurd (H (by omega)) (I _ F hl)
 ·exact hl
 ·rcases u with u|u
  ·omega
  ·exact absurd u (G j h hl)
def cn (s:ByteArray):Nat->Nat
 |0=>0
 |i+1=>cn s i+(if av s i=10 then 1 else 0)
def lf (s:ByteArray):Nat->Nat
 |0=>0
 |i+1=>if av s i=10 then i+1 else lf s i
def bg (s:ByteArray):Nat->Nat
 |0=>0
 |k+1=>nl s (bg s k)+1
theorem fS (s:ByteArray) (i:Nat):(av s i=10/\cn s (i+1)=cn s i+1)\/(av s i≠10/\cn s (i+1)=cn s i):=by
 show(_/\cn s i+_=_)\/(_/\cn s i+_=_)
 by_cases h:av s i=10
 ·rw[Kd h];exact .inl ⟨h,rfl⟩
 ·rw[IO h];exact .inr ⟨h,rfl⟩
theorem vU (s:ByteArray) (i:Nat):∀d,cn s i<=cn s (i+d)
 |0=>ge _
 |d+1=>by
  have h:=vU s i d;have:=fS s (i+d);rw[<-Mh];omega
theorem Cg (s:ByteArray) {i j:Nat}(h:i<=j):cn s i<=cn s j:=by
 have:=vU s i (j-i);rw[show i+(j-i)=j by omega]at this;exact this
theorem F2 (s:ByteArray):∀i,cn s i<=i
 |0=>ge _
 |i+1=>by have:=F2 s i;have:=fS s i;omega
theorem rP (s:ByteArray) (i:Nat):∀d,(∀k,i<=k->k<i+d->av s k≠10)->cn s (i+d)=cn s i
 |0,_=>rfl
 |d+1,h=>by
  have G:=rP s i d (fun k u F=>h k u (by omega))
  rcases fS s (i+d)with⟨u,_⟩|⟨_,F⟩
  ·exact absurd u (h _ (by omega) (by omega))
  ·rw[<-Mh];omega
theorem yH (s:ByteArray) {i j:Nat}(h:i<=j) (F:∀k,i<=k->k<j->av s k≠10):cn s j=cn s i:=by
 have:=rP s i (j-i) (fun k u G=>F k u (by omega));rw[show i+(j-i)=j by omega]at this;exact this
theorem fC (s:ByteArray):∀i,lf s i<=i/\(∀j,lf s i<=j->j<i->av s j≠10)/\(lf s i=0\/(1<=lf s i/\av s (lf s i-1)=10))
 |0=>⟨ge _,fun j _ h=>by omega,.inl rfl⟩
 |i+1=>by
  unfold lf
  by_cases h:av s i=10
  ·grind
  ·rw[IO h];obtain⟨H,u,F⟩:=fC s i;refine⟨by omega,fun j G I=>?_,F⟩
   by_cases e:j=i
   ·rw[e];exact h
   ·exact u j G (by omega)
theorem gI (s:ByteArray) (i:Nat):lf s (i+1)=if av s i=10 then i+1 else lf s i:=rfl
theorem vE (s:ByteArray):∀i,cn s i=0->lf s i=0
 |0,_=>rfl
 |i+1,h=>by
  rcases fS s i with⟨_,F⟩|⟨u,F⟩
  ·omega
  ·rw[gI,IO u];exact vE s i (by omega)
theorem F3 (s:ByteArray):∀i,i<=s.size->bg s (cn s i)=lf s i
 |0,_=>rfl
 |i+1,h=>by
  have G:=F3 s i (by omega);rw[gI]
  rcases fS s i with⟨u,F⟩|⟨u,F⟩
  ·rw[F,Kd u];show nl s (bg s (cn s i))+1=_;obtain⟨H,I,_⟩:=fC s i;rw[G,qQ s (lf s i) i H (by omega) I (.inr u)]
  ·rw[F,IO u,G]
theorem vx (s:ByteArray) (i:Nat) (I:i<=s.size):(nl s i<s.size/\cn s i<cn s s.size/\cn s (nl s i+1)=cn s i+1/\cn s (nl s i)=cn s i)\/(nl s i=s.size/\cn s i=cn s s.size):=by
 obtain⟨F,J,G,H⟩:=ga s i I;have hc:=yH s F G
 by_cases h:nl s i<s.size
 ·have e:=H h
  rcases fS s (nl s i)with⟨_,u⟩|⟨u,_⟩
  ·have:=Cg s (i:=nl s i+1) (j:=s.size) (by omega);exact .inl ⟨h,by omega,by omega,hc⟩
  ·exact absurd e u
 ·grind
theorem lT (s:ByteArray):∀k,k<=cn s s.size->bg s k<=s.size/\cn s (bg s k)=k
 |0,_=>⟨Kj _,rfl⟩
 |k+1,h=>by
  obtain⟨u,F⟩:=lT s k (by omega);show nl s (bg s k)+1<=_/\cn s (nl s (bg s k)+1)=_
  rcases vx s (bg s k) u with⟨a,b,c,_⟩|⟨a,b⟩
  ·exact⟨by omega,by omega⟩
  ·omega
theorem FQ (s:ByteArray) (k:Nat) (h:k<=cn s s.size):bg s k<=nl s (bg s k)/\nl s (bg s k)<=s.size/\(nl s (bg s k)<s.size↔k<cn s s.size):=by
 obtain⟨u,F⟩:=lT s k h;obtain⟨h3,h4,_⟩:=ga s (bg s k) u;refine⟨h3,h4,?_⟩
 rcases vx s (bg s k) u with⟨a,b,c,_⟩|⟨a,b⟩
 ·omega
 ·omega
def ln (s:ByteArray) (k:Nat):ByteArray:=s.extract (bg s k) (nl s (bg s k))
theorem Eg (s:ByteArray) (k:Nat) (h:k<=cn s s.size):(ln s k).size<=s.size:=by
 have:=FQ s k h;unfold ln;rw[ag _ _ _ this.2.1];omega
theorem Fo (s:ByteArray):bg s (cn s s.size)=lf s s.size:=F3 s _ (ge _)
theorem Eh (s:ByteArray):ln s (cn s s.size)=s.extract (lf s s.size) s.size:=by
 unfold ln;rw[Fo];obtain⟨u,F,_⟩:=fC s s.size;rw[qQ s (lf s s.size) s.size u (ge _) F (.inl rfl)]
theorem Dx (s:ByteArray) (k:Nat):st s k<=st s (k+1):=by
 by_cases h:k<(P s).length
 ·have:=cx s k h;omega
 ·rw[ic s k (by omega),ic s (k+1) (by omega)];omega
theorem nU (s:ByteArray) (i j:Nat) (h:i<=j):st s i<=st s j:=by
 obtain⟨d,rfl⟩:∃d,j=i+d:=⟨j-i,by omega⟩;clear h
 induction d with
 |zero=>exact ge _
 |succ d ih=>have:=Dx s (i+d);rw[<-Mh];omega
theorem jm (s:ByteArray) (i j:Nat) (h:i<j) (u:j<=(P s).length):st s i<st s j:=by
 have e:=cx s i (by omega);have F:=aM s (st s i) ((dm s i).2 (by omega));have:=nU s (i+1) j h;omega
def hd (s:ByteArray) (k:Nat):ByteArray:=s.extract 0 (st s k)
theorem kw (s:ByteArray) (k:Nat):(hd s k).size=st s k:=by
 unfold hd;rw[ag s 0 _ (kQ s k)];omega
theorem qc (s:ByteArray) (k:Nat) (G:k<=(P s).length):∀j,j<=k->st (hd s k) j=st s j
 |0,_=>rfl
 |j+1,h=>by
  have F:=qc s k G j (by omega);have e:=cx s j (by omega);have I:=aM s (st s j) ((dm s j).2 (by omega));have H:=nU s (j+1) k h;have u:Utf8.decode (hd s k) (st s j)=Utf8.decode s (st s j):=BW s (st s k) (st s j) (kQ s k) (by omega) (by omega);have hl:j<(P (hd s k)).length:=(dm _ j).1 (by rw[F,kw];omega);rw[cx _ j hl,F,e];unfold dw;rw[u]
theorem Jo (s:ByteArray) (k:Nat) (u:k<=(P s).length):(P (hd s k)).length=k:=by
 have G:¬k<(P (hd s k)).length:=by
  rw[<-dm,qc s k u k (ge _),kw];omega
 by_cases F:k=0
 ·omega
 ·have e:=cx s (k-1) (by omega);have I:=aM s (st s (k-1)) ((dm s _).2 (by omega));rw[show k-1+1=k by omega]at e
  have H:k-1<(P (hd s k)).length:=by
   rw[<-dm,qc s k u _ (by omega),kw];omega
  omega
theorem qG (s:ByteArray) (a:Nat) (u:a<=s.size):∀f i,vk s f (a+i)=(vk (s.extract a s.size) f i).map (fun k=>a+k)
 |0,_=>rfl
 |f+1,i=>by
  unfold vk;rw[ag s a _ (ge _)]
  by_cases h:a+i<s.size
  ·rw[Kd h,Kd (by omega),Np];have e:dw (s.extract a s.size) i=dw s (a+i):=by unfold dw;rw[cI s a i u]
   rw[e,Mh,qG s a u f (i+dw s (a+i))]
  ·rw[IO h,IO (by omega)];rfl
theorem If (s:ByteArray) (k:Nat) (u:k<=(P s).length):(P (s.extract (st s k) s.size)).length=(P s).length-k:=by
 have h:=qG s (st s k) (kQ s k) (s.size-st s k) 0
 have e:pl s (st s k)=(P (s.extract (st s k) s.size)).map (fun j=>st s k+j):=by
  unfold P pl;rw[ag s _ _ (ge _)];exact h
 rw[vl]at e;have:=Kw List.length e;simp at this;omega
theorem cX (s:ByteArray) (a b c d:Nat) (u:b<=s.size) (hd:a+d<=b) (hc:c<=d):(s.extract a b).extract c d=s.extract (a+c) (a+d):=by
 have G:=ag s a b u;have H:=ag (s.extract a b) c d (by omega);have I:=ag s (a+c) (a+d) (by omega);refine uq _ _ (by omega) fun k F=>?_
 rw[dC,Kd (by omega),dC,Kd (by omega),dC,Kd (by omega),Mh]
theorem Cy (s:ByteArray) (a b:Nat) (u:a<=b) (G:b<=(P s).length):(P (s.extract (st s a) (st s b))).length=b-a:=by
 have H:=Jo s b G;have I:=qc s b G a u;have F:=If (hd s b) a (by omega);rw[H,I,kw]at F;have J:=nU s a b u
 have e:(hd s b).extract (st s a) (st s b)=s.extract (st s a) (st s b):=by
  unfold hd;rw[cX s 0 (st s b) _ _ (kQ s b) (by omega) J,Km,Km]
 rw[e]at F;exact F
def bd (s:ByteArray) (b:Nat):Prop:=∃k,k<=(P s).length/\st s k=b
theorem we (s:ByteArray):bd s 0:=⟨0,Kj _,rfl⟩
theorem wg (s:ByteArray):bd s s.size:=⟨_,ge _,ic s _ (ge _)⟩
theorem ia (h:bd s b):b<=s.size:=by obtain⟨k,_,rfl⟩:=h;exact kQ s k
theorem Cf {a:Nat}(G:bd s a) (H:bd s b) (hc:bd s c) (J:a<=b) (M:b<=c) :
  (P (s.extract a b)).length+(P (s.extract b c)).length=(P (s.extract a c)).length:=by
 obtain⟨i,I,rfl⟩:=G;obtain⟨j,hj,rfl⟩:=H;obtain⟨k,hk,rfl⟩:=hc
 have u:i<=j:=by
  apply KG;intro h
  have:=jm s j i (by omega) I;omega
 have F:j<=k:=by
  apply KG;intro h
  have:=jm s k j (by omega) hj;omega
 rw[Cy s i j u hj,Cy s j k F hk,Cy s i k (by omega) hk];omega
theorem Hk (s:ByteArray) (i:Nat) (h:av s i=10):dw s i=1:=by
 unfold dw;rw[aG,h];rfl
theorem xz (s:ByteArray) (j:Nat) (h:av s j=10):j<s.size:=by
 apply KG;intro u
 have:av s j=0:=Ct s j (by omega);omega
theorem Cr (s:ByteArray) (j:Nat) (h:av s j=10):bd s j/\bd s (j+1):=by
 have F:=xz s j h;obtain⟨m,H,u,I,J,M⟩:=iu s j (P s).length (by rw[ic s _ (ge _)];exact F)
 have e:st s m=j:=by
  apply KG;intro G
  have:=(eD s (st s m) (j-st s m) (by omega) (by omega)).2;rw[show st s m+(j-st s m)=j by omega,h]at this;omega
 refine⟨⟨m,by omega,e⟩,⟨m+1,by omega,?_⟩⟩;rw[cx s m u,e,Hk s j h]
theorem Jh (s:ByteArray) (i:Nat):bd s (lf s i):=by
 rcases(fC s i).2.2 with h|⟨F,u⟩
 ·rw[h];exact we s
 ·have:=(Cr s _ u).2;rw[show lf s i-1+1=lf s i by omega]at this;exact this
theorem pc (s:ByteArray) (a:Nat):∀i,i<=a->cn (s.extract 0 a) i=cn s i
 |0,_=>rfl
 |i+1,h=>by
  show cn _ i+_=cn s i+_
  rw[pc s a i (by omega),dM s a i (by omega)]
theorem vG (s:ByteArray) (a:Nat):∀i,i<=a->lf (s.extract 0 a) i=lf s i
 |0,_=>rfl
 |i+1,h=>by
  rw[gI,gI,vG s a i (by omega),dM s a i (by omega)]
theorem o9 (s:ByteArray) (a:Nat):∀i,a+i<=s.size->cn s (a+i)=cn s a+cn (s.extract a s.size) i
 |0,_=>rfl
 |i+1,h=>by
  show cn s (a+i)+_=_+(cn _ i+_)
  rw[o9 s a i (by omega),aB s a s.size i (by omega),Mh];rfl
theorem vF (s:ByteArray) (a:Nat):∀i,a+i<=s.size->lf s (a+i)=if cn (s.extract a s.size) i=0 then lf s a else a+lf (s.extract a s.size) i
 |0,_=>rfl
 |i+1,h=>by
  have G:=vF s a i (by omega);have e:=aB s a s.size i (by omega);rw[<-Mh,gI,gI,e]
  rcases fS (s.extract a s.size) i with⟨u,F⟩|⟨u,F⟩
  ·rw[e]at u;rw[Kd u,Kd u,IO (by omega)];rfl
  ·rw[e]at u;rw[IO u,IO u,F,G]
def eZ (l:Int) (s:ByteArray):Int:=wrap64 (l+cn s s.size)
def jF (c:Int) (s:ByteArray):Int:=wrap64 ((if cn s s.size=0 then c else 1)+(P (s.extract (lf s s.size) s.size)).length)
def Jm (a:Int) (s:ByteArray):Int:=wrap64 (a+s.size)
theorem kE (a b:Int):wrap64 (wrap64 a+b)=wrap64 (a+b):=by unfold wrap64;omega
theorem yd (s:ByteArray) (w:Nat) (u:w<=s.size) (l:Int):eZ (eZ l (s.extract 0 w)) (s.extract w s.size)=eZ l s:=by
 unfold eZ;have F:=ag s 0 w u;have G:=ag s w s.size (ge _);have h:=o9 s w (s.size-w) (by omega);rw[show w+(s.size-w)=s.size by omega]at h;rw[F,G,h,pc s w _ (by omega),Oj,kE]
 congr 1;omega
theorem Ce (s:ByteArray) (w:Nat) (G:bd s w) (c:Int):jF (jF c (s.extract 0 w)) (s.extract w s.size)=jF c s:=by
 have u:=ia G;have I:=ag s 0 w u;have J:=ag s w s.size (ge _);have h:=o9 s w (s.size-w) (by omega);have hl:=vF s w (s.size-w) (by omega);rw[show w+(s.size-w)=s.size by omega]at h hl;have f:=fC s w;have H:=fC (s.extract w s.size) (s.size-w);unfold jF;rw[I,J,pc s w _ (by omega),vG s w _ (by omega),Oj];rw[cX s 0 w _ _ u (by omega) f.1,Km,Km];rw[cX s w s.size _ _ (ge _) (by omega) H.1,show w+(s.size-w)=s.size by omega]
 by_cases F:cn (s.extract w s.size) (s.size-w)=0
 ·rw[Kd F]at hl ⊢;rw[hl,h,F,K0,vE _ _ F,K0,kE,<-Cf (Jh s w) G (wg s) f.1 u]
  congr 1;omega
 ·rw[IO F]at hl ⊢;rw[hl,h,IO (by omega)]
theorem oV (a b:ByteArray) (w:Nat) (h:w<=a.size):a.extract w a.size++b=(a++b).extract w (a++b).size:=by
 have z:=ax a b;have F:=ag a w a.size (ge _);have H:=ax (a.extract w a.size) b;refine uq _ _ (by rw[ag _ _ _ (ge _)];omega) fun i G=>?_
 rw[gM,F,dC,dC,gM]
 by_cases u:i<a.size-w
 ·rw[Kd u,Kd (by omega),Kd (by omega),Kd (by omega)]
 ·rw[IO u,Kd (by omega),IO (by omega)];congr 1;omega
theorem Cq (a b:ByteArray):bd (a++b) (wh a):=by
 obtain⟨m,u,hl,_⟩:=ov a b;refine⟨m,hl,?_⟩;rw[ir a b m (by omega),u,ic _ _ (ge _),ag _ _ _ (cC a).1,Oj]
theorem qC (h:ng p=true):jL p=true:=by unfold jL;rw[h];rfl
theorem Ar {t:ByteArray}{a:Nat}(h:a+t.size<=s.size):pre s a t=decide (s.extract a (a+t.size)=t):=by
 unfold pre;exact KR.2 ⟨fun u=>u.2,fun u=>⟨h,u⟩⟩
inductive Rd where
 |out (p e:Nat)
 |on (n:Nat)
def oe (g:Nat->Nat->Rd):Nat->Nat->Nat->Nat × Nat
 |0,a,_=>(a,0)
 |f+1,a,m=>match g a m with
  |.out p e=>(p,e)
  |.on n=>oe g f (a+n) (m+1)
def run (g:Nat->Nat->Rd) (z a m:Nat):Nat × Nat:=oe g (z+1-a) a m
def dR (g:Nat->Nat->Rd) (z:Nat):Prop:=∀a m n,g a m=.on n->1<=n/\a+n<=z
theorem mT {g:Nat->Nat->Rd}(F:dR g z):∀(f u a m:Nat),z+1<=a+f->z+1<=a+u->a<=z->oe g f a m=oe g u a m
 |0,_,_,_,h,_,h2=>by omega
 |_+1,0,_,_,_,h,h2=>by omega
 |f+1,u+1,a,m,h,h1,h2=>by
  unfold oe;cases e:g a m with
  |out p e=>rfl
  |on n=>
   obtain⟨H,G⟩:=F a m n e;exact mT F f u (a+n) (m+1) (by omega) (by omega) G
theorem bA {g:Nat->Nat->Rd}{a p e:Nat}(u:a<=z) (h:g a m=.out p e):run g z a m=(p,e):=by
 unfold run;rw[show z+1-a=(z-a)+1 by omega];unfold oe;rw[h]
theorem jp {g:Nat->Nat->Rd}{a n:Nat}(u:dR g z) (H:a<=z) (h:g a m=.on n):run g z a m=run g z (a+n) (m+1):=by
 obtain⟨G,F⟩:=u a m n h;unfold run;rw[show z+1-a=(z-a)+1 by omega];rw[show oe g (z-a+1) a m=oe g (z-a) (a+n) (m+1)by rw[oe,h]];exact mT u _ _ _ _ (by omega) (by omega) F
theorem eT {g:Nat->Nat->Rd}(u:dR g z) (I:Nat->Nat->Prop) (Q:Nat × Nat->Prop)
  (G:∀a m p e,a<=z->I a m->g a m=.out p e->Q (p,e)) (F:∀a m n,a<=z->I a m->g a m=.on n->I (a+n) (m+1)) :
  ∀(d a m:Nat),z-a<=d->a<=z->I a m->Q (run g z a m)
 |d,a,m,hd,ha,hI=>by
  cases e:g a m with
  |out p q=>rw[bA ha e];exact G a m p q ha hI e
  |on n=>
   obtain⟨J,H⟩:=u a m n e;rw[jp u ha e];cases d with
   |zero=>omega
   |succ d=>exact eT u I Q G F d (a+n) (m+1) (by omega) H (F a m n ha hI e)
def bJ (c:Nat):Bool:=c==32||c==9||c==13
def eI (s:ByteArray) (i:Nat):Bool:=gd s i&&(decide (dp s i<32)||dp s i==127)
def dh (c:Nat):Bool:=decide (48<=c)&&decide (c<=57)
def ak (s:ByteArray) (a:Nat):Nat:=
 if(gd s a&&ng (dp s a))=true then 1 else if dh (av s a)=true then 3 else if av s a=34 then 4 else if av s a=39 then 5
 else if av s a=47/\a+1<s.size/\av s (a+1)=47 then 7 else if av s a=123 then 8 else if(sg s a).size≠0 then 6 else 0
def cW (s:ByteArray) (f k:Nat) (a _:Nat):Rd:=
 if s.size<=a then .out a 0
 else if(k=1/\(gd s a&&jL (dp s a))=false)\/(k=3/\dh (av s a)=false)then .out a 0
 else if 65535<a+dw s a-f then .out f 103
 else .on (dw s a)
def bS (s:ByteArray) (f q:Nat) (only:Bool) (a m:Nat):Rd:=
 if s.size<=a\/av s a=10 then .out f 101
 else if 65535<a+dw s a-f then .out f 103
 else if av s a=q/\(only=false\/m=1)then .out (a+1) 0
 else if eI s a=true\/(only=true/\(m=1\/av s a=q))then .out a 102
 else .on (dw s a)
def bK (s:ByteArray) (f:Nat) (blk:Bool) (a _:Nat):Rd:=
 if s.size<=a then(if blk=true then .out f 101 else .out a 0)
 else if blk=false/\av s a=10 then .out a 0
 else if 65535<a+1-f then .out f 103
 else if blk=true/\av s a=125 then .out (a+1) 0
 else .on 1
theorem eV (s:ByteArray) (f k:Nat):dR (cW s f k) s.size:=by
 intro a m n h;unfold cW at h
 split at h
 ·cases h
 ·rename_i G
  obtain⟨u,H,F⟩:=aM s a (by omega)
  split at h
  ·cases h
  ·split at h
   ·cases h
   ·cases h;exact⟨u,F⟩
theorem bU (s:ByteArray) (f q:Nat) (o:Bool):dR (bS s f q o) s.size:=by
 intro a m n h;unfold bS at h
 split at h
 ·cases h
 ·rename_i G
  obtain⟨u,H,F⟩:=aM s a (by omega)
  split at h
  ·cases h
  ·split at h
   ·cases h
   ·split at h
    ·cases h
    ·cases h;exact⟨u,F⟩
theorem ce (s:ByteArray) (f:Nat) (o:Bool):dR (bK s f o) s.size:=by
 intro a m n h;unfold bK at h
 split at h
 ·split at h<;>cases h
 ·rename_i u
  split at h
  ·cases h
  ·split at h
   ·cases h
   ·split at h
    ·cases h
    ·cases h;exact⟨ge _,by omega⟩
def aC (s:ByteArray) (a k:Nat):Nat × Nat:=
 if k=4 then run (bS s a 34 false) s.size (a+1) 0
 else if k=5 then run (bS s a 39 true) s.size (a+1) 0
 else if k=7 then run (bK s a false) s.size a 0
 else if k=8 then run (bK s a true) s.size a 0
 else if k=6 then(a+(sg s a).size,0)
 else run (cW s a k) s.size a 0
theorem iw (s:ByteArray) (a:Nat) (h:(sg s a).size≠0):a+(sg s a).size<=s.size/\s.extract a (a+(sg s a).size)=sg s a/\sg s a∈ba:=by
 unfold sg at h ⊢;cases e:ba.find? (pre s a)with
 |none=>rw[e]at h;exact absurd rfl h
 |some x=>
  have u:=List.find?_some e;have G:=Li e;unfold pre at u;have F:=KQ u;exact⟨F.1,F.2,G⟩
theorem sJ (s:ByteArray) (a:Nat):(sg s a).size<=2:=by
 by_cases h:(sg s a).size≠0
 ·have u:=(iw s a h).2.2;have F:∀x∈ba,x.size<=2:=by decide
  exact F _ u
 ·omega
theorem eH (s:ByteArray) (a k p:Nat) (ha:a<s.size) (F:ak s a=k) (h0:k≠0) (h:aC s a k=(p,0)):a<p/\p<=s.size:=by
 obtain⟨d1,d2,d3⟩:=aM s a ha
 have hQ:∀q o,run (bS s a q o) s.size (a+1) 0=(p,0)->a<p/\p<=s.size:=by
  intro q o h
  have:=eT (bU s a q o) (fun b _=>a<b) (fun r=>r.2=0->a<r.1/\r.1<=s.size) (by
   intro b m x e H M u I;unfold bS at u
   split at u
   ·cases u;cases I
   ·split at u
    ·cases u;cases I
    ·split at u
     ·cases u;exact⟨by show a<b+1;omega,by show b+1<=s.size;omega⟩
     ·split at u
      ·cases u;cases I
      ·cases u) (by intro b m n H M u;show a<b+n;omega) _ (a+1) 0 (ge _) (by omega) (by show a<a+1;omega)
  rw[h]at this;exact this rfl
 have hC:∀o,(o=true->av s a≠125)->(o=false->av s a≠10)->run (bK s a o) s.size a 0=(p,0)->a<p/\p<=s.size:=by
  intro o h1 h2 h
  have:=eT (ce s a o) (fun b _=>a<=b) (fun r=>r.2=0->a<r.1/\r.1<=s.size) (by
   intro b m x e H M u I;unfold bK at u
   split at u
   ·split at u
    ·cases u;cases I
    ·cases u;exact⟨by show a<b;omega,H⟩
   ·split at u
    ·rename_i G
     cases u;refine⟨?_,H⟩;show a<b
     rcases LL a b with J|J
     ·exact J
     ·exact absurd (by rw[show a=b by omega];exact G.2) (h2 G.1)
    ·split at u
     ·cases u;cases I
     ·split at u
      ·cases u;exact⟨by show a<b+1;omega,by show b+1<=s.size;omega⟩
      ·cases u) (by intro b m n H M u;show a<=b+n;omega) _ a 0 (ge _) (by omega) (ge _)
  rw[h]at this;exact this rfl
 have hR:((k=1/\(gd s a&&jL (dp s a))=false)\/(k=3/\dh (av s a)=false)->False)->run (cW s a k) s.size a 0=(p,0)->a<p/\p<=s.size:=by
  intro h1 h
  have:=eT (eV s a k) (fun b _=>a<=b) (fun r=>r.2=0->a<r.1/\r.1<=s.size) (by
   intro b m x e H M u I;unfold cW at u
   split at u
   ·cases u;exact⟨by show a<b;omega,H⟩
   ·split at u
    ·rename_i G
     cases u;refine⟨?_,H⟩;show a<b
     rcases LL a b with J|J
     ·exact J
     ·have:b=a:=Nat.le_antisymm J M;rw[this]at G;exact absurd G h1
    ·split at u
     ·cases u;cases I
     ·cases u) (by intro b m n H M u;show a<=b+n;omega) _ a 0 (ge _) (by omega) (ge _)
  rw[h]at this;exact this rfl
 unfold aC at h;unfold ak at F
 by_cases c1:(gd s a&&ng (dp s a))=true
 ·rw[Kd c1]at F;subst F;simp only[show ¬(1:Nat)=4 by decide,show ¬(1:Nat)=5 by decide,show ¬(1:Nat)=7 by decide,show ¬(1:Nat)=8 by decide,show ¬(1:Nat)=6 by decide,LP]at h;refine hR ?_ h;rintro(⟨_,G⟩|⟨G,_⟩)
  ·rw[Lo]at c1;rw[c1.1,qC c1.2]at G;cases G
  ·cases G
 ·rw[IO c1]at F
  by_cases c2:dh (av s a)=true
  ·rw[Kd c2]at F;subst F;simp only[show ¬(3:Nat)=4 by decide,show ¬(3:Nat)=5 by decide,show ¬(3:Nat)=7 by decide,show ¬(3:Nat)=8 by decide,show ¬(3:Nat)=6 by decide,LP]at h;refine hR ?_ h;rintro(⟨G,_⟩|⟨_,G⟩)
   ·cases G
   ·rw[c2]at G;cases G
  ·rw[IO c2]at F
   by_cases c3:av s a=34
   ·rw[Kd c3]at F;subst F;rw[Kd rfl]at h;exact hQ _ _ h
   ·rw[IO c3]at F
    by_cases c4:av s a=39
    ·rw[Kd c4]at F;subst F;rw[IO (by decide),Kd rfl]at h;exact hQ _ _ h
    ·rw[IO c4]at F
     by_cases c5:av s a=47/\a+1<s.size/\av s (a+1)=47
     ·rw[Kd c5]at F;subst F;rw[IO (by decide),IO (by decide),Kd rfl]at h;exact hC false (by intro h;cases h) (by intro _;rw[c5.1];decide) h
     ·rw[IO c5]at F
      by_cases c6:av s a=123
      ·rw[Kd c6]at F;subst F;rw[IO (by decide),IO (by decide),IO (by decide),Kd rfl]at h;exact hC true (by intro _;rw[c6];decide) (by intro h;cases h) h
      ·rw[IO c6]at F
       by_cases O:(sg s a).size≠0
       ·rw[Kd O]at F;subst F;rw[IO (by decide),IO (by decide),IO (by decide),IO (by decide),Kd rfl]at h;cases h;exact⟨by omega,(iw s a O).1⟩
       ·rw[IO O]at F;exact absurd F.symm h0
structure Tk where
 k:Nat
 a:Nat
 e:Nat
 f:Nat
def aV (s:ByteArray):Nat->Nat
 |0=>0
 |p+1=>if bJ (av s p)=true then aV s p else p+1
def bh (s:ByteArray) (k a p f:Nat):Tk:=⟨if k=1/\ky (s.extract a p)=true then 2 else k,a,if k=7 then aV s p else p,f⟩
def jy (s:ByteArray):Nat->Nat->Nat->List Tk × Nat × Nat
 |0,_,_=>([],0,0)
 |g+1,a,f=>
  if s.size<=a then([],0,0)
  else if av s a=10 then jy s g (a+1) (f+1)
  else if bJ (av s a)=true then jy s g (a+1) f
  else if ak s a=0 then([],100,a)
  else if(aC s a (ak s a)).2≠0 then([],(aC s a (ak s a)).2,(aC s a (ak s a)).1)
  else(bh s (ak s a) a (aC s a (ak s a)).1 f :: (jy s g (aC s a (ak s a)).1 0).1,(jy s g (aC s a (ak s a)).1 0).2)
def rA (s:ByteArray) (a f:Nat):List Tk × Nat × Nat:=jy s (s.size-a) a f
theorem gO (s:ByteArray):∀(g u a f:Nat),s.size<=a+g->s.size<=a+u->jy s g a f=jy s u a f
 |0,0,_,_,_,_=>rfl
 |0,u+1,a,f,h,_=>by unfold jy;rw[Kd (by omega)]
 |g+1,0,a,f,_,h=>by
  rw[show jy s 0 a f=([],0,0)from rfl];unfold jy;rw[Kd (by omega)]
 |g+1,u+1,a,f,h,h'=>by
  unfold jy
  by_cases F:s.size<=a
  ·rw[Kd F,Kd F]
  ·rw[IO F,IO F,gO s g u (a+1) (f+1) (by omega) (by omega),gO s g u (a+1) f (by omega) (by omega)]
   by_cases G:ak s a=0
   ·rw[Kd G,Kd G]
   ·by_cases H:(aC s a (ak s a)).2≠0
    ·rw[Kd H,Kd H]
    ·have I:=eH s a (ak s a) (aC s a (ak s a)).1 (by omega) rfl G (Prod.ext rfl (by simpa using H));rw[gO s g u _ 0 (by omega) (by omega)]
theorem oS (s:ByteArray) (a f:Nat) (h:s.size<=a):rA s a f=([],0,0):=by
 unfold rA;rw[show s.size-a=0 by omega];rfl
theorem gq (s:ByteArray) (a f:Nat) (h:a<s.size):rA s a f =
  if av s a=10 then rA s (a+1) (f+1)
  else if bJ (av s a)=true then rA s (a+1) f
  else if ak s a=0 then([],100,a)
  else if(aC s a (ak s a)).2≠0 then([],(aC s a (ak s a)).2,(aC s a (ak s a)).1)
  else(bh s (ak s a) a (aC s a (ak s a)).1 f :: (rA s (aC s a (ak s a)).1 0).1,(rA s (aC s a (ak s a)).1 0).2):=by
 have G:rA s a f=jy s ((s.size-(a+1))+1) a f:=by unfold rA;rw[show s.size-a=(s.size-(a+1))+1 by omega]
 rw[G];unfold jy;rw[IO (by omega)]
 by_cases u:ak s a=0
 ·simp only[Kd u];rfl
 ·by_cases F:(aC s a (ak s a)).2≠0
  ·simp only[Kd F];rfl
  ·have H:=eH s a (ak s a) (aC s a (ak s a)).1 h rfl u (Prod.ext rfl (by simpa using F));rw[gO s (s.size-(a+1)) (s.size-(aC s a (ak s a)).1) (aC s a (ak s a)).1 0 (by omega) (by omega)];rfl
def scn (s:ByteArray):List Tk × Nat × Nat:=rA s 0 0
theorem eh (s:ByteArray):∀p,aV s p<=p
 |0=>ge _
 |p+1=>by
  unfold aV
  split
  ·have:=eh s p;omega
  ·exact ge _
theorem gA (s:ByteArray) (a:Nat) (h:bJ (av s a)=false):∀p,a<p->a<aV s p
 |0,h1=>by omega
 |p+1,h1=>by
  unfold aV
  by_cases e:bJ (av s p)=true
  ·rw[Kd e];refine gA s a h p ?_
   rcases LL a p with u|u
   ·exact u
   ·rw[show a=p by omega,e]at h;cases h
  ·rw[IO e];exact h1
theorem kN (s:ByteArray):∀p i,aV s p<=i->i<p->bJ (av s i)=true
 |0,_,_,h=>by omega
 |p+1,i,h,h1=>by
  unfold aV at h
  by_cases e:bJ (av s p)=true
  ·rw[Kd e]at h
   by_cases u:i=p
   ·rw[u];exact e
   ·exact kN s p i h (by omega)
  ·rw[IO e]at h;omega
theorem bH (s:ByteArray) (i:Nat) (h:av s i<128):dw s i=1/\dp s i=av s i/\gd s i=true:=by
 have e:Utf8.decode s i=(av s i,1):=by rw[aG];unfold D;rw[Kd h]
 unfold gd dw dp;rw[e];refine⟨rfl,rfl,?_⟩;show CK (av s i:Int) 1=true;have u:((av s i:Int) != 65533)=true:=by simp;omega
 unfold CK;rw[u];rfl
theorem t8 (s:ByteArray) (i:Nat) (h:dp s i<128):av s i=dp s i:=by
 by_cases u:av s i<128
 ·exact(bH s i u).2.1.symm
 ·exfalso
  unfold dp at h;rw[aG]at h;unfold D at h;rw[IO u]at h
  repeat' split at h
  all_goals first|(rename_i F;simp only[ge_iff_le,Lo,KJ]at F;omega)|(simp only[]at h;omega)|(exact absurd h (by decide))
theorem Jb (s:ByteArray) (i c:Nat) (hc:c<128):dp s i=c↔av s i=c:=by
 constructor
 ·intro h;rw[t8 s i (by omega),h]
 ·intro h;rw[(bH s i (by omega)).2.1,h]
theorem jD (s:ByteArray) (j:Nat) (F:j<s.size) (h:av s j<128):bd s j/\bd s (j+1):=by
 obtain⟨m,H,u,I,J,M⟩:=iu s j (P s).length (by rw[ic s _ (ge _)];exact F)
 have e:st s m=j:=by
  apply KG;intro G
  have:=(eD s (st s m) (j-st s m) (by omega) (by omega)).2;rw[show st s m+(j-st s m)=j by omega]at this;omega
 refine⟨⟨m,by omega,e⟩,⟨m+1,by omega,?_⟩⟩;rw[cx s m u,e,(bH s j h).1]
theorem ph {a:Nat}(h:bd s a) (F:a<s.size):bd s (a+dw s a):=by
 obtain⟨k,G,rfl⟩:=h;have u:=(dm s k).1 F;exact⟨k+1,by omega,cx s k u⟩
theorem wi {a:Nat}(G:bd s a) (H:bd s b) (J:a<=b):bd (s.extract 0 b) a:=by
 obtain⟨i,I,rfl⟩:=G;obtain⟨j,hj,rfl⟩:=H
 have u:i<=j:=by
  apply KG;intro h
  have:=jm s j i (by omega) I;omega
 have e:=qc s j hj i u;have F:=Jo s j hj;unfold hd at e F;exact⟨i,by omega,e⟩
def pL (s:ByteArray) (a:Nat):Int:=eZ 1 (s.extract 0 a)
def pC (s:ByteArray) (a:Nat):Int:=jF 1 (s.extract 0 a)
theorem AB (s:ByteArray):pL s 0=1/\pC s 0=1:=by
 have e:s.extract 0 0=ByteArray.empty:=by
  have F:(s.extract 0 0).size=0:=by rw[ag s 0 0 (Kj _)]
  exact aU _ _ (by rw[F];rfl) (fun j I=>by omega)
 unfold pL pC;rw[e];have z:ByteArray.empty.size=0:=rfl
 have u:(P (ByteArray.empty.extract (lf ByteArray.empty 0) 0)).length=0:=by
  have G:=wn (ByteArray.empty.extract (lf ByteArray.empty 0) 0);have H:=ag ByteArray.empty (lf ByteArray.empty 0) 0 (Kj _);omega
 constructor
 ·unfold eZ;rw[z];show wrap64 (1+((0:Nat):Int))=1;unfold wrap64;omega
 ·unfold jF;rw[z,u];show wrap64 (1+((0:Nat):Int))=1;unfold wrap64;omega
theorem lV {a:Nat}(J:bd s a) (I:bd s b) (F:a<=b) (M:s.size<=2147483647) :
  Jm a (s.extract a b)=b/\eZ (pL s a) (s.extract a b)=pL s b/\jF (pC s a) (s.extract a b)=pC s b:=by
 have u:=ia I;have z:(s.extract 0 b).size=b:=by rw[ag s 0 b u];rfl
 have G:(s.extract 0 b).extract 0 a=s.extract 0 a:=by
  rw[cX s 0 b 0 a u (by omega) (Kj _),Km,Km]
 have H:(s.extract 0 b).extract a b=s.extract a b:=by
  rw[cX s 0 b a b u (by omega) F,Km,Km]
 refine⟨?_,?_,?_⟩
 ·unfold Jm;rw[ag s a b u];unfold wrap64;omega
 ·have h:=yd (s.extract 0 b) a (by omega) 1;rw[z,G,H]at h;exact h
 ·have h:=Ce (s.extract 0 b) a (wi J I F) 1;rw[z,G,H]at h;exact h
theorem AC (s:ByteArray) (a:Nat):-9223372036854775808<=pL s a/\pL s a<=9223372036854775807:=by
 unfold pL eZ wrap64;omega
theorem qe:∀x∈ba,(x.size=1\/x.size=2)/\av x (x.size-1)<128:=by decide
theorem Hg {a k p e:Nat}(H:bd s a) (ha:a<s.size) (F:ak s a=k) (h0:k≠0) (h:aC s a k=(p,e)):bd s p:=by
 have hQ:∀q o,q<128->av s a=q->run (bS s a q o) s.size (a+1) 0=(p,e)->bd s p:=by
  intro q o hq aa h
  have:=eT (bU s a q o) (fun b _=>bd s b) (fun r=>bd s r.1) (by
   intro b m x e I G u;unfold bS at u
   split at u
   ·cases u;exact H
   ·rename_i h1
    split at u
    ·cases u;exact H
    ·split at u
     ·rename_i J
      cases u;exact(jD s b (by omega) (by omega)).2
     ·split at u
      ·cases u;exact G
      ·cases u) (by
   intro b m n I G u;unfold bS at u
   split at u
   ·cases u
   ·rename_i h1
    split at u
    ·cases u
    ·split at u
     ·cases u
     ·split at u
      ·cases u
      ·cases u;exact ph G (by omega)) _ (a+1) 0 (ge _) (by omega) (jD s a ha (by omega)).2
  rw[h]at this;exact this
 have hC:∀o,run (bK s a o) s.size a 0=(p,e)->bd s p:=by
  intro o h
  have:=eT (ce s a o) (fun _ _=>True) (fun r=>bd s r.1) (by
   intro b m x e I G u;unfold bK at u
   split at u
   ·split at u
    ·cases u;exact H
    ·cases u;rw[show b=s.size by omega];exact wg s
   ·split at u
    ·rename_i J
     cases u;exact(Cr s b J.2).1
    ·split at u
     ·cases u;exact H
     ·split at u
      ·rename_i J
       cases u;exact(jD s b (by omega) (by omega)).2
      ·cases u) (by intros;trivial) _ a 0 (ge _) (by omega) trivial
  rw[h]at this;exact this
 have hR:∀k,run (cW s a k) s.size a 0=(p,e)->bd s p:=by
  intro k h
  have:=eT (eV s a k) (fun b _=>bd s b) (fun r=>bd s r.1) (by
   intro b m x e I G u;unfold cW at u
   split at u
   ·cases u;exact G
   ·split at u
    ·cases u;exact G
    ·split at u
     ·cases u;exact H
     ·cases u) (by
   intro b m n I G u;unfold cW at u
   split at u
   ·cases u
   ·split at u
    ·cases u
    ·split at u
     ·cases u
     ·cases u;exact ph G (by omega)) _ a 0 (ge _) (by omega) H
  rw[h]at this;exact this
 unfold aC at h
 by_cases M:k=4
 ·rw[Kd M]at h;refine hQ 34 _ (by decide) ?_ h;rw[M]at F;unfold ak at F
  repeat' split at F
  all_goals first|assumption|(cases F;done)
 ·rw[IO M]at h
  by_cases O:k=5
  ·rw[Kd O]at h;refine hQ 39 _ (by decide) ?_ h;rw[O]at F;unfold ak at F
   repeat' split at F
   all_goals first|assumption|(cases F;done)
  ·rw[IO O]at h
   by_cases k7:k=7
   ·rw[Kd k7]at h;exact hC _ h
   ·rw[IO k7]at h
    by_cases k8:k=8
    ·rw[Kd k8]at h;exact hC _ h
    ·rw[IO k8]at h
     by_cases k6:k=6
     ·rw[Kd k6]at h;cases h
      have hsz:(sg s a).size≠0:=by
       rw[k6]at F;unfold ak at F
       repeat' split at F
       all_goals first|assumption|(cases F;done)
      obtain⟨g1,g2,g3⟩:=iw s a hsz;obtain⟨g4,g5⟩:=qe _ g3
      have e1:av s (a+((sg s a).size-1))<128:=by
       rw[<-g2]at g5;rw[ag s _ _ g1,aB s a _ _ (by omega)]at g5;rw[show a+((sg s a).size-1)=a+(a+(sg s a).size-a-1)by omega];exact g5
      have:=(jD s _ (by omega) e1).2;rw[show a+((sg s a).size-1)+1=a+(sg s a).size by omega]at this;exact this
     ·rw[IO k6]at h;exact hR _ h
theorem Co (h:bJ c=true):c<128:=by
 unfold bJ at h;simp at h;omega
def tv (s:ByteArray) (t:Tk):Tv:=⟨t.k,s.extract t.a t.e,t.a,pL s t.a,pC s t.a,t.f⟩
