import Derived.Test.YtcmbkeghnmgbfaaGreatDoorM17
set_option linter.all false
set_option maxHeartbeats 1000000
namespace Go.Proofs.YtcmbkeghnmgbfaaGreatDoor.Lw
open Go.Proofs.Tryz
open Lx
open Go.RowKit
section
variable {own:Nat->Nat} {j:Nat} {W:World} {g o q:Nat} {cs:List (Nat × List Nat)}
theorem jz (h:fe own j W q cs) (hq:W.cell? ⟨g,o,none⟩=some (.pointer (some ⟨q,0,none⟩))) :
  Kb 153 #[.pointer (some ⟨g,o,none⟩)] W fun e w'=>e=.returned (.tuple #[.pointer (pa (fl cs).head?),.bool (!(fl cs).isEmpty)])/\Kc W w':=by
 have J:=ku (nv h hq)
 have I:Hid (∀V,Kc W V->Kb 196 #[.pointer (pa (cs.head?.map (·.1))),.int .i64 0] V fun e w'=>(∃y:Int,e=.returned (.tuple #[.pointer (pa (fl cs).head?),.int .i64 y])/\decide (y=0)=!(fl cs).isEmpty)/\Kc V w'):=fun V hV=>by
  cases cs with
  |nil=>
   refine(wk 0 V).mono ?_;rintro e w'⟨rfl,rfl⟩;exact⟨⟨3,rfl,rfl⟩,gt _ _⟩
  |cons x t=>
   obtain⟨⟨sv,zs,front,M⟩,O⟩:=(h.below hV).part x Ko
   obtain⟨b,c,hc⟩:∃b c,x.2=b :: c:=by
    cases G:x.2 with
    |nil=>exact absurd G O
    |cons b c=>exact⟨b,c,rfl⟩
   have G:(x.2.map some)[0]?=some (some b):=by rw[hc];rfl
   refine(wm own _ x.1 1024 front 0 sv zs _ _ V M G).mono ?_;rintro e w'⟨rfl,m,rfl⟩;refine⟨⟨0,?_,?_⟩,eF _ _⟩
   ·rw[gP,hc];rfl
   ·rw[gP,hc];rfl
 clear h
 generalize pa (fl cs).head?=x at *
 generalize pa (cs.head?.map (·.1))=z at *
 generalize(!(fl cs).isEmpty)=b at *
 go_enter func153,ntmps153
 go_wp2_with fail
 refine J.out.mono ?_;rintro e w1⟨rfl,u⟩;have F:=ku u;clear u
 go_wp2_with(go_at_call 196;refine(I.out _ F.out).mono ?_;rintro e w2⟨⟨y,rfl,hy⟩,H⟩)
 go_ret2
 exact⟨by rw[<-hy];simp[MP],F.out.trans (H.mono F.out.size)⟩
theorem vJ (cs:List (Nat × List Nat)) (F:∀x∈cs,x.2≠[]):(cs.getLast?=none/\fl cs=[])\/∃u r c b,cs=u++[(r,c++[b])]/\cs.getLast?=some (r,c++[b])/\fl cs=fl u++c++[b]:=by
 rcases MH cs with rfl|⟨u,x,rfl⟩
 ·exact .inl ⟨rfl,rfl⟩
 ·obtain⟨r,l⟩:=x;have hl:=F (r,l) (by simp)
  rcases MH l with rfl|⟨c,b,rfl⟩
  ·exact absurd rfl hl
  ·exact .inr ⟨u,r,c,b,by simp,by simp,by simp[fl]⟩
theorem AZ (h:fe own j W q cs) (hq:W.cell? ⟨g,o,none⟩=some (.pointer (some ⟨q,0,none⟩))) :
  Kb 162 #[.pointer (some ⟨g,o,none⟩)] W fun e w'=>e=.returned (.tuple #[.pointer (pa (fl cs).getLast?),.bool (!(fl cs).isEmpty)])/\Kc W w':=by
 have HF:=ku (iY h hq)
 have M:∃n:Nat,n<=1024/\(∀V,Kc W V->Kb 206 #[.pointer (pa (cs.getLast?.map (·.1)))] V fun e w'=>e=.returned (.int .i64 (n:Nat))/\w'=V)/\(∀V,Kc W V->Kb 196 #[.pointer (pa (cs.getLast?.map (·.1))),.int .i64 ((n:Int)-1)] V fun e w'=>(∃y:Int,e=.returned (.tuple #[.pointer (pa (fl cs).getLast?),.int .i64 y])/\decide (y=0)=!(fl cs).isEmpty)/\Kc V w'):=by
  rcases vJ cs (fun x hx=>(h.part x hx).2)with⟨G,O⟩|⟨u,r,c,b,e0,G,O⟩
  ·refine⟨0,by omega,fun V H=>?_,fun V H=>?_⟩
   ·rw[G];exact AU V
   ·rw[G,O];refine(wk _ V).mono ?_;rintro e w'⟨rfl,rfl⟩;exact⟨⟨3,rfl,rfl⟩,gt _ _⟩
  ·have F:(r,c++[b])∈cs:=by rw[e0];simp
   refine⟨(c++[b]).length,h.plen F,fun V H=>?_,fun V H=>?_⟩
   ·obtain⟨⟨sv,zs,front,h1⟩,h2⟩:=(h.below H).part _ F;rw[G];have c3:=h1.c3;rw[Lj]at c3;exact AV r _ V c3
   ·obtain⟨⟨sv,zs,front,h1⟩,h2⟩:=(h.below H).part _ F;rw[G,O];have hx:((c++[b]).map some)[c.length]?=some (some b):=by simp
    have:=wm own _ r 1024 front c.length sv zs _ _ V h1 hx;rw[show(((c++[b]).length:Nat):Int)-1=((c.length:Nat):Int)by simp];refine this.mono ?_;rintro e w'⟨rfl,m,rfl⟩;refine⟨⟨0,?_,?_⟩,eF _ _⟩
    ·simp
    ·simp
 obtain⟨n,hn,hL,M⟩:=M;have HL:=aK hL;have HA:=aK M;clear h hL M
 generalize pa (fl cs).getLast?=x at *
 generalize pa (cs.getLast?.map (·.1))=z at *
 generalize(!(fl cs).isEmpty)=b at *
 go_enter func162,ntmps162
 go_wp2_with fail
 refine HF.out.mono ?_;rintro e w1⟨rfl,I⟩;have J:=ku I;clear I
 go_wp2_with(first|(go_at_call 206;refine(HL.out _ J.out).mono ?_;rintro e w2⟨rfl,rfl⟩)|(go_at_call 196;refine(HA.out _ J.out).mono ?_;rintro e w2⟨⟨y,rfl,hy⟩,hb2⟩))
 go_ret2
 exact⟨by rw[<-hy];simp[MP],J.out.trans (hb2.mono J.out.size)⟩
end
def RA (own:Nat->Nat) (j:Nat) (W w':World) (q:Nat) (l:List Nat):Prop:=∃own' cs,Nf own' w'/\bV (Lr j) own own' W w'/\fe own' j w' q cs/\fl cs=l
theorem mh {j:Nat}(h:j<2):¬Lr j 2:=by unfold Lr;omega
section
variable {own:Nat->Nat} {j:Nat} {W:World} {g o q:Nat} {cs:List (Nat × List Nat)}
theorem eb {own':Nat->Nat}{w':World}{P:Nat->Prop}(u:bV P own own' W w') (F:¬P (own g)) {k:Nat}{v:Value}(hc:W.cell? ⟨g,k,none⟩=some v):w'.cell? ⟨g,k,none⟩=some v:=
 (Kn (a:=⟨g,k,none⟩) (u.block g (Kg W ⟨g,k,none⟩ hc) F)).trans hc
theorem eu {own':Nat->Nat}{w':World}{P:Nat->Prop}(F:bV P own own' W w') (G:¬P (own g)) (u:g<W.heap.size) {k:Nat}(hc:W.frozen? ⟨g,k,none⟩=false):w'.frozen? ⟨g,k,none⟩=false:=by
 have:=F.block g u G;unfold World.frozen? at hc ⊢;simp only at hc ⊢;rw[this];exact hc
theorem fe.blk (h:fe own j W q cs) {x:Nat × List Nat}(F:x∈cs):x.1<W.heap.size:=by
 obtain⟨⟨sv,G,front,u⟩,_⟩:=h.part x F;exact ai u.blk
theorem DR (h:fe own j W q cs) (H:Nf own W) (hg:own g=2) (eO:Nat) (ac:eO<=1000000000) (hq:W.cell? ⟨g,o,none⟩=some (.pointer (some ⟨q,0,none⟩))) (hc:W.cell? ⟨g,o+1,none⟩=some (.int .i64 (eO:Nat))) (hz:W.frozen? ⟨g,o+1,none⟩=false)
  (b:Nat) {u:List (Nat × List Nat)} {r:Nat} {c:List Nat} (F:cs=u++[(r,c)]) (ab:c.length<1024) :
  Kb 151 #[.pointer (some ⟨g,o,none⟩),.pointer (some ⟨b,0,none⟩)] W fun e w'=>e=.returned (.tuple #[])/\∃W1,w'=W1.setCell ⟨g,o+1,none⟩ (.int .i64 ((eO:Int)+1))/\RA own j W W1 q (fl cs++[b]):=by
 have hj:=h.j2;have I:=Kg _ _ hc
 have HF:Hid (Kb 191 #[.pointer (some ⟨g,o,none⟩)] W fun e w'=>e=.returned (.pointer (some ⟨r,0,none⟩))/\Kc W w'):=by
  have:=iY h hq;rw[F]at this;exact aK (by simpa using this)
 have HP:Hid (∀V,Kc W V->Kb 192 #[.pointer (some ⟨r,0,none⟩),.pointer (some ⟨b,0,none⟩)] V fun e w'=>e=.returned (.int .i64 0)/\Hid (RA own j W w' q (fl cs++[b]))/\w'.cell? ⟨g,o+1,none⟩=some (.int .i64 (eO:Nat))/\w'.frozen? ⟨g,o+1,none⟩=false):=fun V M=>by
  have J:=h.below M;rw[F]at J;obtain⟨⟨sv,zs,front,h1⟩,h2⟩:=J.part (r,c) (by simp);refine(mW own _ r 1024 front sv zs _ (some b) V h1 (H.below M.size) (by rw[Lj];exact ab)).mono ?_;rintro e w'⟨rfl,ha⟩;have aa:wu own (10+2*r+j) V w' r 1024 ((c++[b]).map some):=by rw[Lf];exact ha
  obtain⟨own',k1,k2,k3⟩:=J.turn (c':=c++[b]) aa (by simp) (by
   have hm:=J.mid;cases u with
   |nil=>intro x hx;simp at hx
   |cons y u=>simp only[KF,Mp,LR]at hm ⊢;exact hm)
  have O:bV (Lr j) own own' W w':=(bV.of_below M).trans k2;refine⟨rfl,⟨own',_,k1,O,k3,?_⟩,eb O (by rw[hg];exact mh hj) hc,eu O (by rw[hg];exact mh hj) I hz⟩;rw[F];simp[fl]
 clear h F H
 generalize fl cs=l at *
 go_enter func151,ntmps151
 go_wp2_with fail
 refine HF.out.mono ?_;rintro e w1⟨rfl,G⟩;have HB:=ku G;clear G
 go_wp2_with fail
 refine(HP.out _ HB.out).mono ?_;rintro e w2⟨rfl,HR,y1,y2⟩
 go_wp2_with fail
 go_end0
 exact⟨rfl,w2,rfl,HR.out⟩
theorem qx (h:fe own j W q cs) (af:Nf own W) (hg:own g=2) (eO:Nat) (au:eO<=1000000000) (av:(fl cs).length<=1000000000) (hq:W.cell? ⟨g,o,none⟩=some (.pointer (some ⟨q,0,none⟩))) (hc:W.cell? ⟨g,o+1,none⟩=some (.int .i64 (eO:Nat))) (hz:W.frozen? ⟨g,o+1,none⟩=false)
  (b:Nat) (G:cs=[]\/∃u r c,cs=u++[(r,c)]/\c.length=1024) :
  Kb 151 #[.pointer (some ⟨g,o,none⟩),.pointer (some ⟨b,0,none⟩)] W fun e w'=>e=.returned (.tuple #[])/\∃W1,w'=W1.setCell ⟨g,o+1,none⟩ (.int .i64 ((eO:Int)+1))/\RA own j W W1 q (fl cs++[b]):=by
 have hj:=h.j2;have ah:=Kg _ _ hc;have ap:cs.length<2097152:=by have:=JQ cs h.mid;omega
 have I:∀x∈cs.tail,x.2.length=1024:=by
  rcases G with rfl|⟨u,r,c,rfl,aa⟩
  ·intro x F;simp at F
  ·have hm:=h.mid;cases u with
   |nil=>intro x F;simp at F
   |cons y u=>
    simp only[KF,Mp,LR]at hm ⊢;intro x F
    rcases Lg.1 F with F|F
    ·exact hm x F
    ·rw[Mk.1 F];exact aa
 have HF:=ku (iY h hq)
 have ak:Hid (∀V,Below W.heap.size W V->Kb 192 #[.pointer (pa (cs.getLast?.map (·.1))),.pointer (some ⟨b,0,none⟩)] V fun e w'=>(∃y:Int,e=.returned (.int .i64 y)/\y≠0)/\Below W.heap.size W w'):=fun V M=>by
  rcases G with rfl|⟨u,r,c,rfl,aa⟩
  ·refine(xj (some b) V).mono ?_;rintro e w'⟨rfl,rfl⟩;exact⟨⟨3,rfl,by decide⟩,M⟩
  ·obtain⟨⟨sv,H,front,h1⟩,h2⟩:=(h.below M).part (r,c) (by simp);have c3:=h1.c3;rw[Lj,aa]at c3;have:=tg r 1024 (some b) V h1.c0 c3;rw[show(u++[(r,c)]).getLast?.map (·.1)=some r by simp];refine this.mono ?_;rintro e w'⟨rfl,m,rfl⟩;exact⟨⟨50,rfl,by decide⟩,M.trans ((eF V m).mono M.size)⟩
 have al:Hid (∀V,Below W.heap.size W V->Kb 192 #[.pointer (some ⟨V.heap.size,0,none⟩),.pointer (some ⟨b,0,none⟩)] (V.alloc (.cells #[.int .i64 1024,.slice none 0 0,.int .i64 0,.int .i64 0] 313)) fun e w'=>e=.returned (.int .i64 0)/\Hid (∃own2,Nf own2 w'/\bV (Lr j) own own2 W w'/\fe own2 j w' q cs/\(∃sv H front,jY own2 (10+2*V.heap.size+j) w' V.heap.size 1024 sv H front ([b].map some))/\(∀x∈cs,x.1≠V.heap.size))/\w'.cell? ⟨g,o,none⟩=some (.pointer (some ⟨q,0,none⟩))):=fun V M=>by
  have ag:Below V.heap.size V (V.alloc (.cells #[.int .i64 1024,.slice none 0 0,.int .i64 0,.int .i64 0] 313)):=(gt _ _).alloc (ge _) _;have hsz:(V.alloc (.cells #[.int .i64 1024,.slice none 0 0,.int .i64 0,.int .i64 0] 313)).heap.size=V.heap.size+1:=Eq _ _;have O:=h.below M;have an:Fr (10+2*V.heap.size+j) own (fun k=>if k=V.heap.size then 10+2*V.heap.size+j else own k) V (V.alloc (.cells #[.int .i64 1024,.slice none 0 0,.int .i64 0,.int .i64 0] 313)):=Fr.label ag
  have ai:jY (fun k=>if k=V.heap.size then 10+2*V.heap.size+j else own k) (10+2*V.heap.size+j) (V.alloc (.cells #[.int .i64 1024,.slice none 0 0,.int .i64 0,.int .i64 0] 313)) V.heap.size 1024 (.slice none 0 0) [] 0 []:=
   ⟨am _ _,Kd rfl,by omega,by omega,by simp,.inl ⟨rfl,rfl,rfl⟩,⟨by simp,fun i hi=>absurd hi (by simp)⟩⟩
  refine(mW _ _ V.heap.size 1024 0 _ [] [] (some b) _ ai (fun k hk=>?_) (by simp)).mono ?_
  ·show(if k=V.heap.size then 10+2*V.heap.size+j else own k)=0
   rw[hsz]at hk;have:=M.size;rw[IO (by omega)];exact af k (by omega)
  rintro e w'⟨rfl,own2,sv,H,front,k1,k2,k3⟩;have ad:=an.trans k2;have hf:bV (Lr j) own own2 W w':=(bV.of_below M).trans (ad.toP (.inr ⟨by omega,by omega⟩));have ae:∀x∈cs,x.1≠V.heap.size:=fun x F e=>by have:=O.blk F;omega
  have hP:bV (fun i=>i=10+2*V.heap.size+j) own own2 V w':=ad.toP rfl;refine⟨rfl,⟨own2,k1,hf,?_,⟨sv,H,front,k3⟩,ae⟩,eb hf (by rw[hg];exact mh hj) hq⟩;obtain⟨sv,H,front,r1⟩:=O.out;refine⟨hj,⟨sv,H,front,r1.keptP hP (by omega)⟩,fun x F=>?_,O.mid,O.nd⟩;obtain⟨⟨sv,H,front,r2⟩,r3⟩:=O.part x F;have:=ae x F;exact⟨⟨sv,H,front,r2.keptP hP (by omega)⟩,r3⟩
 have HQ:Hid (∀n w2,(∃own2,Nf own2 w2/\bV (Lr j) own own2 W w2/\fe own2 j w2 q cs/\(∃sv H front,jY own2 (10+2*n+j) w2 n 1024 sv H front ([b].map some))/\(∀x∈cs,x.1≠n))->Kb 194 #[.pointer (some ⟨q,0,none⟩),.pointer (some ⟨n,0,none⟩)] w2 fun e w'=>e=.returned (.int .i64 0)/\Hid (RA own j W w' q (fl cs++[b]))/\w'.cell? ⟨g,o+1,none⟩=some (.int .i64 (eO:Nat))/\w'.frozen? ⟨g,o+1,none⟩=false):=fun n w2 ⟨own2,k1,k2,k3,⟨aq,ar,J,k4⟩,k5⟩=>by
  obtain⟨sv,H,front,r1⟩:=k3.out;refine(xi own2 (3+j) q 2097152 front sv H _ (some n) w2 r1 k1 (by rw[Lj];exact ap)).mono ?_;rintro e w'⟨rfl,own3,sv3,zs3,front3,i1,i2,i3⟩;have hf:bV (Lr j) own own3 W w':=k2.trans (i2.toP (.inl rfl));have hP:bV (fun i=>i=3+j) own2 own3 w2 w':=i2.toP rfl;refine⟨rfl,⟨own3,cs++[(n,[b])],i1,hf,⟨hj,⟨sv3,zs3,front3,by rw[Lf];exact i3⟩,fun x F=>?_,?_,?_⟩,by rw[By];rfl⟩,eb hf (by rw[hg];exact mh hj) hc,eu hf (by rw[hg];exact mh hj) ah hz⟩
  ·rcases Lg.1 F with F|F
   ·obtain⟨⟨sv,H,front,r2⟩,r3⟩:=k3.part x F;exact⟨⟨sv,H,front,r2.keptP hP (by omega)⟩,r3⟩
   ·rw[Mk.1 F];exact⟨⟨aq,ar,J,k4.keptP hP (by omega)⟩,by simp⟩
  ·cases cs with
   |nil=>intro x F;simp at F
   |cons y cs=>simp only[KF,Mp,LR]at I ⊢;exact I
  ·rw[Lf,L9];refine⟨k3.nd,by simp,fun a ha b O=>?_⟩;obtain⟨x,F,rfl⟩:=Mi.1 ha;simp at O;rw[O];exact k5 x F
 clear h G af I
 generalize fl cs=l at *
 generalize pa (cs.getLast?.map (·.1))=z at *
 go_enter func151,ntmps151
 go_wp2_with fail
 refine HF.out.mono ?_;rintro e w1⟨rfl,ab⟩;have HB:=ku ab;clear ab
 go_wp2_with fail
 refine(ak.out _ HB.out).mono ?_;rintro e w2⟨⟨y,rfl,hy⟩,ac⟩;have aj:=ku ac;clear ac HB;have aw:(y==0)=false:=by simpa using hy
 go_wp2_with fail
 refine(JP 1024 _ (by omega) (by omega)).mono ?_;rintro e w3⟨rfl,rfl⟩
 go_wp2_with fail
 refine(al.out _ aj.out).mono ?_;rintro e w4⟨rfl,HX,y1⟩
 go_wp2_with fail
 refine(HQ.out _ _ HX.out).mono ?_;rintro e w5⟨rfl,HR,y2,y3⟩
 go_wp2_with fail
 go_end0
 exact⟨rfl,w5,rfl,HR.out⟩
theorem qy (h:fe own j W q cs) (H:Nf own W) (J:own g=2) (eO:Nat) (G:eO<=1000000000) (I:(fl cs).length<=1000000000) (M:W.cell? ⟨g,o,none⟩=some (.pointer (some ⟨q,0,none⟩))) (hc:W.cell? ⟨g,o+1,none⟩=some (.int .i64 (eO:Nat))) (O:W.frozen? ⟨g,o+1,none⟩=false) (b:Nat) :
  Kb 151 #[.pointer (some ⟨g,o,none⟩),.pointer (some ⟨b,0,none⟩)] W fun e w'=>e=.returned (.tuple #[])/\∃W1,w'=W1.setCell ⟨g,o+1,none⟩ (.int .i64 ((eO:Int)+1))/\RA own j W W1 q (fl cs++[b]):=by
 rcases MH cs with rfl|⟨u,⟨r,c⟩,F⟩
 ·exact qx h H J eO G I M hc O b (.inl rfl)
 ·rw[NN]at F;have hl:=h.plen (x:=(r,c)) (by rw[F];simp)
  by_cases aa:c.length<1024
  ·exact DR h H J eO G M hc O b F aa
  ·exact qx h H J eO G I M hc O b (.inr ⟨u,r,c,F,by simp at hl;omega⟩)
end
section
variable {own:Nat->Nat} {j:Nat} {W:World} {g o q:Nat} {cs:List (Nat × List Nat)}
theorem fe.gone {J:World}{u v:List (Nat × List Nat)}{r:Nat}{c l':List Nat}(h:fe own j W q (u++(r,c) :: v)) (ha:wu own (10+2*r+j) W J r 1024 (l'.map some)) :
  ∃F,Nf F J/\bV (Lr j) own F W J/\(∃sv H front,my F (3+j) J q 2097152 sv H front ((u++(r,c) :: v).map fun x=>some x.1))/\(∀x∈u++v,(∃sv H front,jY F (10+2*x.1+j) J x.1 1024 sv H front (x.2.map some))/\x.2≠[]):=by
 obtain⟨own',sv,H,front,h1,O,h3⟩:=ha;have hj:=h.j2;have hP:bV (fun i=>i=10+2*r+j) own own' W J:=O.toP rfl;refine⟨own',h1,O.toP (.inr ⟨by omega,by omega⟩),?_,fun x hx=>?_⟩
 ·obtain⟨sv,H,front,M⟩:=h.out;exact⟨sv,H,front,M.keptP hP (by omega)⟩
 ·have G:=h.nd;rw[Lf,Np]at G
  have aa:x.1≠r:=by
   intro e;rw[L9]at G
   rcases Lg.1 hx with I|I
   ·exact G.2.2 x.1 (List.mem_map_of_mem I) r Ko e
   ·have:=(Mu.1 G.2.1).1;exact this (Mi.2 ⟨x,I,e⟩)
  obtain⟨⟨sv,H,front,M⟩,k2⟩:=h.part x (by
   rcases Lg.1 hx with I|I
   ·exact MY _ I
   ·exact MO _ (KA _ I))
  exact⟨⟨sv,H,front,M.keptP hP (by omega)⟩,k2⟩
theorem fe.went {H w2:World}{F:Nat->Nat}{u:List (Nat × List Nat)}(hj:j<2) (hp:∀x∈u,(∃sv G front,jY F (10+2*x.1+j) H x.1 1024 sv G front (x.2.map some))/\x.2≠[]) (O:CC F (3+j) H w2 q 2097152 (u.map fun x=>some x.1)) (hm:∀x∈u.tail.dropLast,x.2.length=1024) (hn:(u.map (·.1)).Nodup) :
  ∃own2,Nf own2 w2/\bV (Lr j) F own2 H w2/\fe own2 j w2 q u:=by
 obtain⟨own',sv,G,front,J,I,M⟩:=O;refine⟨own',J,I.toP (.inl rfl),hj,⟨sv,G,front,M⟩,fun x hx=>?_,hm,hn⟩;obtain⟨⟨sv,G,front,k1⟩,k2⟩:=hp x hx;exact⟨⟨sv,G,front,k1.keptP (I.toP (P:=fun i=>i=3+j) rfl) (by omega)⟩,k2⟩
theorem ou (h:fe own j W q cs) (ad:Nf own W) (hg:own g=2) (eO:Nat) (af:eO<=1000000000) (hq:W.cell? ⟨g,o,none⟩=some (.pointer (some ⟨q,0,none⟩))) (hc:W.cell? ⟨g,o+1,none⟩=some (.int .i64 (eO:Nat))) (hz:W.frozen? ⟨g,o+1,none⟩=false)
  {b:Nat} {l:List Nat} (hl:fl cs=b :: l) :
  Kb 157 #[.pointer (some ⟨g,o,none⟩)] W fun e w'=>e=.returned (.tuple #[])/\∃W1,w'=W1.setCell ⟨g,o+1,none⟩ (.int .i64 ((eO:Int)-1))/\RA own j W W1 q l:=by
 have hj:=h.j2;have aa:=Kg _ _ hc
 obtain⟨r,c,t,ac⟩:∃r c t,cs=(r,b :: c) :: t:=by
  cases cs with
  |nil=>cases hl
  |cons x t=>
   obtain⟨r,k⟩:=x;have:=(h.part (r,k) Ko).2;cases k with
   |nil=>exact absurd rfl this
   |cons y c=>
    rw[gP]at hl;simp at hl;exact⟨r,c,t,by rw[hl.1]⟩
 have O:l=c++fl t:=by
  rw[ac,gP]at hl
  simpa using hl.symm
 have HF:Hid (Kb 195 #[.pointer (some ⟨g,o,none⟩)] W fun e w'=>e=.returned (.pointer (some ⟨r,0,none⟩))/\Kc W w'):=by
  have:=nv h hq;rw[ac]at this;exact this
 subst ac
 have F:∀V,Kc W V->Kb 205 #[.pointer (some ⟨r,0,none⟩)] V fun e w'=>e=.returned (.tuple #[.pointer (some ⟨b,0,none⟩),.int .i64 0])/\wu own (10+2*r+j) V w' r 1024 (c.map some)/\fe own j V q ([]++(r,b :: c) :: t):=fun V hV=>by
  have hb:=h.below hV;obtain⟨⟨sv,H,front,h1⟩,h2⟩:=hb.part (r,b :: c) Ko;refine(xn own _ r 1024 front sv H _ (some b) V h1 (ad.below hV.size) rfl).mono ?_;rintro e w'⟨rfl,M⟩;exact⟨rfl,M,hb⟩
 by_cases ab:c=[]
 ·subst ab
  have HP:Hid (∀V,Kc W V->Kb 205 #[.pointer (some ⟨r,0,none⟩)] V fun e w'=>e=.returned (.tuple #[.pointer (some ⟨b,0,none⟩),.int .i64 0])/\Hid (∃u,Nf u w'/\bV (Lr j) own u W w'/\(∃sv H front,my u (3+j) w' q 2097152 sv H front (((r,[b]) :: t).map fun x=>some x.1))/\(∀x∈t,(∃sv H front,jY u (10+2*x.1+j) w' x.1 1024 sv H front (x.2.map some))/\x.2≠[]))/\w'.cell? ⟨r,3,none⟩=some (.int .i64 0)/\w'.cell? ⟨g,o,none⟩=some (.pointer (some ⟨q,0,none⟩))):=fun V hV=>by
   refine(F V hV).mono ?_;rintro e w'⟨rfl,M,hb⟩
   have c3:w'.cell? ⟨r,3,none⟩=some (.int .i64 0):=by
    obtain⟨_,_,_,_,_,_,i3⟩:=M;exact i3.c3
   obtain⟨u,k1,k2,k3,k4⟩:=hb.gone (l':=[]) M;have J:=(bV.of_below (P:=Lr j) (own:=own) hV).trans k2;exact⟨rfl,⟨u,k1,J,k3,k4⟩,c3,eb J (by rw[hg];exact mh hj) hq⟩
  have HL:=ku fun w' (hw:w'.cell? ⟨r,3,none⟩=some (.int .i64 0))=>AV r 0 w' hw
  have HQ:Hid (∀G,(∃u,Nf u G/\bV (Lr j) own u W G/\(∃sv H front,my u (3+j) G q 2097152 sv H front (((r,[b]) :: t).map fun x=>some x.1))/\(∀x∈t,(∃sv H front,jY u (10+2*x.1+j) G x.1 1024 sv H front (x.2.map some))/\x.2≠[]))->Kb 207 #[.pointer (some ⟨q,0,none⟩)] G fun e w'=>e=.returned (.tuple #[.pointer (some ⟨r,0,none⟩),.int .i64 0])/\Hid (RA own j W w' q l)/\w'.cell? ⟨g,o+1,none⟩=some (.int .i64 (eO:Nat))/\w'.frozen? ⟨g,o+1,none⟩=false):=fun G ⟨u,k1,k2,⟨sv,H,front,k3⟩,k4⟩=>by
   refine(xm u (3+j) q 2097152 front sv H _ (some r) G k3 k1 rfl).mono ?_;rintro e w'⟨rfl,M⟩
   obtain⟨own2,i1,i2,i3⟩:=fe.went hj k4 M (by
    have hm:=h.mid;rw[Mp]at hm;intro x hx;refine hm x ?_;cases t with
    |nil=>simp at hx
    |cons y t=>
     rw[Mp]at hx;cases t with
     |nil=>simp at hx
     |cons z t=>rw[List.dropLast_cons_of_ne_nil (by simp)];exact KA _ hx) (by have:=h.nd;rw[Np]at this;exact(Mu.1 this).2)
   have J:=k2.trans i2;exact⟨rfl,⟨own2,t,i1,J,i3,by rw[O];rfl⟩,eb J (by rw[hg];exact mh hj) hc,eu J (by rw[hg];exact mh hj) aa hz⟩
  clear h F hl O ad
  go_enter func157,ntmps157
  go_wp2_with fail
  refine HF.out.mono ?_;rintro e G⟨rfl,I⟩;have HB:=ku I;clear I
  go_wp2_with fail
  refine(HP.out _ HB.out).mono ?_;rintro e w2⟨rfl,HX,y1,y2⟩
  go_wp2_with fail
  refine(HL.out _ y1).mono ?_;rintro e w3⟨rfl,rfl⟩
  go_wp2_with fail
  refine(HQ.out _ HX.out).mono ?_;rintro e w5⟨rfl,HR,y3,y4⟩
  go_wp2_with fail
  go_end0
  exact⟨rfl,w5,rfl,HR.out⟩
 ·have ae:0<c.length:=Ob.2 ab;have ag:c.length<1024:=by have:=h.plen (x:=(r,b :: c)) Ko;simp at this;omega
  have HP:Hid (∀V,Kc W V->Kb 205 #[.pointer (some ⟨r,0,none⟩)] V fun e w'=>e=.returned (.tuple #[.pointer (some ⟨b,0,none⟩),.int .i64 0])/\Hid (RA own j W w' q l)/\w'.cell? ⟨r,3,none⟩=some (.int .i64 (c.length:Nat))/\w'.cell? ⟨g,o+1,none⟩=some (.int .i64 (eO:Nat))/\w'.frozen? ⟨g,o+1,none⟩=false):=fun V hV=>by
   refine(F V hV).mono ?_;rintro e w'⟨rfl,M,hb⟩
   have c3:w'.cell? ⟨r,3,none⟩=some (.int .i64 (c.length:Nat)):=by
    obtain⟨_,_,_,_,_,_,i3⟩:=M;have:=i3.c3;rw[Lj]at this;exact this
   obtain⟨u,k1,k2,k3⟩:=hb.turn (c':=c) M ab hb.mid;have J:=(bV.of_below (P:=Lr j) (own:=own) hV).trans k2;exact⟨rfl,⟨u,_,k1,J,k3,by rw[O];rfl⟩,c3,eb J (by rw[hg];exact mh hj) hc,eu J (by rw[hg];exact mh hj) aa hz⟩
  have HL:=ku fun w' (hw:w'.cell? ⟨r,3,none⟩=some (.int .i64 (c.length:Nat)))=>AV r c.length w' hw
  clear h F hl O ad
  generalize c.length=n at *
  have q1:((n:Int)==0)=false:=by simp;omega
  have q2:¬((n:Int)=0):=by omega
  have q3:¬(n=0):=by omega
  go_enter func157,ntmps157
  go_wp2_with fail
  refine HF.out.mono ?_;rintro e G⟨rfl,I⟩;have HB:=ku I;clear I
  go_wp2_with fail
  refine(HP.out _ HB.out).mono ?_;rintro e w2⟨rfl,HX,y1,y2,y3⟩
  go_wp2_with fail
  refine(HL.out _ y1).mono ?_;rintro e w3⟨rfl,rfl⟩
  go_wp2_with fail
  go_end0
  exact⟨rfl,w3,rfl,HX.out⟩
theorem qF (h:fe own j W q cs) (ad:Nf own W) (hg:own g=2) (eO:Nat) (ai:eO<=1000000000) (hq:W.cell? ⟨g,o,none⟩=some (.pointer (some ⟨q,0,none⟩))) (hc:W.cell? ⟨g,o+1,none⟩=some (.int .i64 (eO:Nat))) (hz:W.frozen? ⟨g,o+1,none⟩=false)
  {b:Nat} {l:List Nat} (hl:fl cs=l++[b]) :
  Kb 217 #[.pointer (some ⟨g,o,none⟩)] W fun e w'=>e=.returned (.tuple #[])/\∃W1,w'=W1.setCell ⟨g,o+1,none⟩ (.int .i64 ((eO:Int)-1))/\RA own j W W1 q l:=by
 have hj:=h.j2;have ab:=Kg _ _ hc
 obtain⟨t,r,c,ag,O,aa⟩:∃t r c,cs=t++[(r,c++[b])]/\cs.getLast?=some (r,c++[b])/\l=fl t++c:=by
  rcases vJ cs (fun x hx=>(h.part x hx).2)with⟨e1,e2⟩|⟨u,r,c,b',e0,e1,e2⟩
  ·rw[e2]at hl;simp at hl
  ·rw[e2]at hl;have:=O1 hl rfl;have hb:b'=b:=by simpa using this.2
   subst hb;exact⟨u,r,c,e0,e1,this.1.symm⟩
 have HF:Hid (Kb 191 #[.pointer (some ⟨g,o,none⟩)] W fun e w'=>e=.returned (.pointer (some ⟨r,0,none⟩))/\Kc W w'):=by
  have:=iY h hq;rw[O]at this;exact this
 clear O;subst ag;have ae:((c++[b]).map some)[((c++[b]).map some).length-1]?=some (some b):=by simp
 have G:∀V,Kc W V->Kb 272 #[.pointer (some ⟨r,0,none⟩)] V fun e w'=>e=.returned (.tuple #[.pointer (some ⟨b,0,none⟩),.int .i64 0])/\wu own (10+2*r+j) V w' r 1024 (c.map some)/\fe own j V q (t++(r,c++[b]) :: []):=fun V hV=>by
  have hb:=h.below hV;obtain⟨⟨sv,J,front,h1⟩,h2⟩:=hb.part (r,c++[b]) (by simp);refine(xr own _ r 1024 front sv J _ (some b) V h1 (ad.below hV.size) (by simp) ae).mono ?_;rintro e w'⟨rfl,I⟩;refine⟨rfl,?_,hb⟩;rw[Lf,List.map_singleton,LR]at I;exact I
 by_cases ac:c=[]
 ·subst ac
  have HP:Hid (∀V,Kc W V->Kb 272 #[.pointer (some ⟨r,0,none⟩)] V fun e w'=>e=.returned (.tuple #[.pointer (some ⟨b,0,none⟩),.int .i64 0])/\Hid (∃F,Nf F w'/\bV (Lr j) own F W w'/\(∃sv J front,my F (3+j) w' q 2097152 sv J front ((t++[(r,[b])]).map fun x=>some x.1))/\(∀x∈t,(∃sv J front,jY F (10+2*x.1+j) w' x.1 1024 sv J front (x.2.map some))/\x.2≠[]))/\w'.cell? ⟨r,3,none⟩=some (.int .i64 0)/\w'.cell? ⟨g,o,none⟩=some (.pointer (some ⟨q,0,none⟩))):=fun V hV=>by
   refine(G V hV).mono ?_;rintro e w'⟨rfl,I,hb⟩
   have c3:w'.cell? ⟨r,3,none⟩=some (.int .i64 0):=by
    obtain⟨_,_,_,_,_,_,i3⟩:=I;exact i3.c3
   obtain⟨F,k1,k2,k3,k4⟩:=hb.gone (l':=[]) I;have hf:=(bV.of_below (P:=Lr j) (own:=own) hV).trans k2;exact⟨rfl,⟨F,k1,hf,k3,fun x hx=>k4 x (by simpa using hx)⟩,c3,eb hf (by rw[hg];exact mh hj) hq⟩
  have HL:=ku fun w' (hw:w'.cell? ⟨r,3,none⟩=some (.int .i64 0))=>AV r 0 w' hw
  have HQ:Hid (∀H,(∃F,Nf F H/\bV (Lr j) own F W H/\(∃sv J front,my F (3+j) H q 2097152 sv J front ((t++[(r,[b])]).map fun x=>some x.1))/\(∀x∈t,(∃sv J front,jY F (10+2*x.1+j) H x.1 1024 sv J front (x.2.map some))/\x.2≠[]))->Kb 273 #[.pointer (some ⟨q,0,none⟩)] H fun e w'=>e=.returned (.tuple #[.pointer (some ⟨r,0,none⟩),.int .i64 0])/\Hid (RA own j W w' q l)/\w'.cell? ⟨g,o+1,none⟩=some (.int .i64 (eO:Nat))/\w'.frozen? ⟨g,o+1,none⟩=false):=fun H ⟨F,k1,k2,⟨sv,J,front,k3⟩,k4⟩=>by
   refine(xo F (3+j) q 2097152 front sv J _ (some r) H k3 k1 (by simp) (by simp)).mono ?_;rintro e w'⟨rfl,I⟩
   have af:CC F (3+j) H w' q 2097152 (t.map fun x=>some x.1):=by
    rw[Lf,List.map_singleton,LR]at I;exact I
   obtain⟨own2,i1,i2,i3⟩:=fe.went hj k4 af (by
    have hm:=h.mid;cases t with
    |nil=>intro x hx;simp at hx
    |cons y t=>
     simp only[KF,Mp,LR]at hm;intro x hx;exact hm x ((List.dropLast_sublist _).subset hx)) (by have:=h.nd;rw[Lf,L9]at this;exact this.1)
   have hf:=k2.trans i2;exact⟨rfl,⟨own2,t,i1,hf,i3,by rw[aa];simp⟩,eb hf (by rw[hg];exact mh hj) hc,eu hf (by rw[hg];exact mh hj) ab hz⟩
  clear h G hl aa ad ae
  go_enter func217,ntmps217
  go_wp2_with fail
  refine HF.out.mono ?_;rintro e H⟨rfl,M⟩;have HB:=ku M;clear M
  go_wp2_with fail
  refine(HP.out _ HB.out).mono ?_;rintro e w2⟨rfl,HX,y1,y2⟩
  go_wp2_with fail
  refine(HL.out _ y1).mono ?_;rintro e w3⟨rfl,rfl⟩
  go_wp2_with fail
  refine(HQ.out _ HX.out).mono ?_;rintro e w5⟨rfl,HR,y3,y4⟩
  go_wp2_with fail
  go_end0
  exact⟨rfl,w5,rfl,HR.out⟩
 ·have ah:0<c.length:=Ob.2 ac;have aj:c.length<1024:=by have:=h.plen (x:=(r,c++[b])) (by simp);simp at this;omega
  have HP:Hid (∀V,Kc W V->Kb 272 #[.pointer (some ⟨r,0,none⟩)] V fun e w'=>e=.returned (.tuple #[.pointer (some ⟨b,0,none⟩),.int .i64 0])/\Hid (RA own j W w' q l)/\w'.cell? ⟨r,3,none⟩=some (.int .i64 (c.length:Nat))/\w'.cell? ⟨g,o+1,none⟩=some (.int .i64 (eO:Nat))/\w'.frozen? ⟨g,o+1,none⟩=false):=fun V hV=>by
   refine(G V hV).mono ?_;rintro e w'⟨rfl,I,hb⟩
   have c3:w'.cell? ⟨r,3,none⟩=some (.int .i64 (c.length:Nat)):=by
    obtain⟨_,_,_,_,_,_,i3⟩:=I;have:=i3.c3;rw[Lj]at this;exact this
   obtain⟨F,k1,k2,k3⟩:=hb.turn (c':=c) I ac (by
    have hm:=hb.mid;cases t with
    |nil=>intro x hx;simp at hx
    |cons y t=>simp only[KF,Mp,LR]at hm ⊢;exact hm)
   have hf:=(bV.of_below (P:=Lr j) (own:=own) hV).trans k2;exact⟨rfl,⟨F,_,k1,hf,k3,by rw[aa];simp[fl]⟩,c3,eb hf (by rw[hg];exact mh hj) hc,eu hf (by rw[hg];exact mh hj) ab hz⟩
  have HL:=ku fun w' (hw:w'.cell? ⟨r,3,none⟩=some (.int .i64 (c.length:Nat)))=>AV r c.length w' hw
  clear h G hl aa ad ae
  generalize c.length=n at *
  have q1:((n:Int)==0)=false:=by simp;omega
  have q2:¬((n:Int)=0):=by omega
  have q3:¬(n=0):=by omega
  go_enter func217,ntmps217
  go_wp2_with fail
  refine HF.out.mono ?_;rintro e H⟨rfl,M⟩;have HB:=ku M;clear M
  go_wp2_with fail
  refine(HP.out _ HB.out).mono ?_;rintro e w2⟨rfl,HX,y1,y2,y3⟩
  go_wp2_with fail
  refine(HL.out _ y1).mono ?_;rintro e w3⟨rfl,rfl⟩
  go_wp2_with fail
  go_end0
  exact⟨rfl,w3,rfl,HX.out⟩
end
theorem Tryz.info116:(Tryz.prog.info? 116).map (fun i=>(i.zero,i.size,i.bytes))=some (some (.agg #[.int .i64 0,.bool false,.bool false]),3,16):=by kernel_rfl
def mw (b:Bk):List Value:=[.int .i64 b.ind,.bool b.ev,.bool b.ft]
theorem Fj (b:Bk):(mw b).length=3:=rfl
structure nK where
 a0:Value
 a1:Value
 a2:Value
 a3:Value
 a4:Value
 a5:Value
 a6:Value
def Ay (hd:nK) (n gs:Nat) (b:Bk) (v:Value) (en:Bool):Array Value:=#[hd.a0,hd.a1,hd.a2,hd.a3,hd.a4,hd.a5,hd.a6,.int .i64 n,.pointer (some ⟨gs,0,none⟩),.int .i64 b.ind,.bool b.ev,.bool b.ft,v,.bool en]
structure cM (hd:nK) (B:Nat) (w0:World) (own:Nat->Nat) (W:World) (g gs n:Nat) (p:Pr):Prop where
 en:En own W
 lo:∀k,k<B->own k=0
 bel:Below B w0 W
 hB:B<=w0.heap.size
 sk:SK own 1 W gs p.sk
 pr:∃v,W.heap[g]?=some (.cells (Ay hd n gs p.bl v p.en) 122 (0,0))/\(W.ownsRow 0 116 3 v p.ar.length (au mw p.ar.reverse)/\∀k,v.ownBlock=some k->own k=2)
 lab:own g=2
section
variable {hd:nK} {B:Nat} {w0:World} {own:Nat->Nat} {W:World} {g gs n:Nat} {p:Pr}
theorem cM.c0 (h:cM hd B w0 own W g gs n p):W.cell? ⟨g,7,none⟩=some (.int .i64 n):=by obtain⟨v,u,_⟩:=h.pr;exact aa u rfl
theorem cM.c1 (h:cM hd B w0 own W g gs n p):W.cell? ⟨g,8,none⟩=some (.pointer (some ⟨gs,0,none⟩)):=by obtain⟨v,u,_⟩:=h.pr;exact aa u rfl
theorem cM.c2 (h:cM hd B w0 own W g gs n p):W.cell? ⟨g,9,none⟩=some (.int .i64 p.bl.ind):=by obtain⟨v,u,_⟩:=h.pr;exact aa u rfl
theorem cM.c3 (h:cM hd B w0 own W g gs n p):W.cell? ⟨g,10,none⟩=some (.bool p.bl.ev):=by obtain⟨v,u,_⟩:=h.pr;exact aa u rfl
theorem cM.c4 (h:cM hd B w0 own W g gs n p):W.cell? ⟨g,11,none⟩=some (.bool p.bl.ft):=by obtain⟨v,u,_⟩:=h.pr;exact aa u rfl
theorem cM.c6 (h:cM hd B w0 own W g gs n p):W.cell? ⟨g,13,none⟩=some (.bool p.en):=by obtain⟨v,u,_⟩:=h.pr;exact aa u rfl
theorem cM.fz (h:cM hd B w0 own W g gs n p) (k:Nat):W.frozen? ⟨g,k,none⟩=false:=by obtain⟨v,u,_⟩:=h.pr;exact aj u
theorem cM.lt (h:cM hd B w0 own W g gs n p):g<W.heap.size:=by obtain⟨v,u,_⟩:=h.pr;exact ai u
theorem cM.bl (h:cM hd B w0 own W g gs n p):B<=W.heap.size:=Kh h.hB h.bel.size
theorem cM.gB (h:cM hd B w0 own W g gs n p):B<=g:=by
 refine OZ fun u=>?_
 have:=h.lo g u;rw[h.lab]at this;cases this
theorem cM.below (h:cM hd B w0 own W g gs n p) {W':World}(u:Below W.heap.size W W'):cM hd B w0 own W' g gs n p:=by
 obtain⟨v,F,G,H⟩:=h.pr;exact⟨h.en.below u,h.lo,h.bel.trans (u.mono h.bl),h.hB,h.sk.below u,⟨v,af F u,bi G u,H⟩,h.lab⟩
theorem cM.sink (h:cM hd B w0 own W g gs n p) {W':World}{J:cK}(ha:Ae own 1 W W' gs J):∃own',cM hd B w0 own' W' g gs n { p with sk:=J }/\Sd own own' W W'/\W.heap.size<=W'.heap.size:=by
 obtain⟨own',M,u,O⟩:=ha;obtain⟨v,h1,h2⟩:=h.pr;have F:=ai h1;have H:=h.bl;refine⟨own',⟨M,fun k G=>(u.old k (by omega)).trans (h.lo k G),h.bel.trans (u.below H h.lo (by omega)),h.hB,O,⟨v,?_,tW u (by omega) h2⟩,(u.old g F).trans h.lab⟩,fun k G I=>⟨u.block k G (by rw[I];omega),(u.old k G).trans I⟩,u.size⟩;exact(u.block g F (by rw[h.lab];omega)).trans h1
theorem cM.sett (h:cM hd B w0 own W g gs n p) (b:Bool):cM hd B w0 own (W.setCell ⟨g,13,none⟩ (.bool b)) g gs n { p with en:=b }/\Sd own own W (W.setCell ⟨g,13,none⟩ (.bool b)):=by
 obtain⟨v,F,G,M⟩:=h.pr;have H:Fr 2 own own W (W.setCell ⟨g,13,none⟩ (.bool b)):=(Fr.refl 2 own W).set' h.lab 13 _;have hn:Nf own (W.setCell ⟨g,13,none⟩ (.bool b)):=h.en.nf.below (Kp.set W g 13 _).size;have r1:=aE G F (by decide)
 exact⟨⟨h.en.fr (by omega) hn H,h.lo,h.bel.setCell (p:=⟨g,13,none⟩) h.gB _,h.hB,h.sk.kept H (by omega),⟨v,ab F 13 _,(Kp.set W g 13 _).row G (fun k I J=>r1 (by rw[I,J])),M⟩,h.lab⟩,
  fun k O u=>⟨(Kp.set W g 13 (.bool b)).block k O (fun e=>by subst e;rw[h.lab]at u;cases u),u⟩⟩
end
theorem jx {hd:nK}{B:Nat}{w0:World}{own:Nat->Nat}{W:World}{g gs n:Nat}{p:Pr}(h:cM hd B w0 own W g gs n p) {U:Nat}(O:Bp p U) (hU:U<=2147483647) (need:Nat) (ab:need<=1000000000000000) (hn:n<=4096) :
  Kb 198 #[.pointer (some ⟨g,7,none⟩),.int .i64 need] W fun e w'=>e=.returned (.bool (p.fits n need))/\Below W.heap.size W w':=by
 have G:=O.col;have HC:=ku fun V (u:Kc W V)=>yG (h.below u).sk (by omega) (by omega)
 have c0:=h.c0;have c1:=h.c1;have aa:=h.lt;have M:Hid (∀V,Kc W V->V.cell? ⟨g,7,none⟩=some (.int .i64 n)/\V.cell? ⟨g,8,none⟩=some (.pointer (some ⟨gs,0,none⟩))/\Kc W V):=fun V u=>⟨(h.below u).c0,(h.below u).c1,u⟩
 have e:p.fits n need=decide ((need:Int)<=(n:Int)-((p.sk.col:Int)+p.sk.wait)):=by
  unfold Pr.fits Pr.at;rw[KR];omega
 rw[e];obtain⟨z,hz⟩:∃z:Nat,p.sk.col+p.sk.wait=z:=⟨_,rfl⟩;have F:(p.sk.col:Int)+p.sk.wait=(z:Int):=by omega
 rw[F]at HC ⊢;have ac:z<=2147483647:=by omega
 have J:IntKind.i64.wrap ((n:Int)-z)=(n:Int)-z:=by rw[Ki];omega
 clear hz F G e h O
 go_enter func198,ntmps198
 go_wp2_with fail
 go_region_held3 (fun w'=>w'.cell? ⟨g,7,none⟩=some (.int .i64 n)/\w'.cell? ⟨g,8,none⟩=some (.pointer (some ⟨gs,0,none⟩))/\Below W.heap.size W w') (first|(exact M.out _ (by assumption))|(exact M.out _ (gt _ _).drew)|go_keep) (first|(go_at_call 256;refine(HC.out _ (by first|assumption|exact(gt _ _).drew)).mono ?_;rintro e w1⟨rfl,H⟩;have I:=(by first|exact(gt W.heap.size W).drew.trans (H.mono (ge _))|assumption:Below W.heap.size W w1)))
 all_goals(
  go_wp2_with fail
  go_ret
  exact⟨by rw[<-J];rfl,I⟩)
theorem im {hd:nK}{B:Nat}{w0:World}{own:Nat->Nat}{W:World}{g gs n:Nat}{p:Pr}(h:cM hd B w0 own W g gs n p) :
  Kb 199 #[.pointer (some ⟨g,7,none⟩)] W fun e w'=>e=.returned (.bool p.sk.fresh)/\w'=W:=by
 have u:=ku (Bu h.sk);have c1:=h.c1;clear h
 go_enter func199,ntmps199
 go_wp2_with(go_at_call 257;refine u.out.mono ?_;rintro e F⟨rfl,rfl⟩)
 go_ret
 exact⟨rfl,rfl⟩
def fT (hd:nK) (B:Nat) (w0:World) (own:Nat->Nat) (W:World) (g gs n:Nat) (p':Pr) (w':World):Prop:=∃own',cM hd B w0 own' w' g gs n p'/\Sd own own' W w'/\W.heap.size<=w'.heap.size
theorem nr {hd:nK}{B:Nat}{w0:World}{own:Nat->Nat}{W:World}{g gs n:Nat}{p:Pr}(h:cM hd B w0 own W g gs n p) {U:Nat}(G:Bp p U) (hU:U<=2147483647) (m:Nat) (hm:m<=1000) :
  Kb 201 #[.pointer (some ⟨g,7,none⟩),.int .i64 m] W fun e w'=>e=.returned (.tuple #[])/\fT hd B w0 own W g gs n (p.hold m) w':=by
 have H:=G.col;have u:=ku (im h);have c1:=h.c1;unfold Pr.hold;cases F:p.sk.fresh
 ·have I:Hid (Kb 260 #[.pointer (some ⟨gs,0,none⟩),.int .i64 m] W fun e w'=>e=.returned (.int .i64 0)/\fT hd B w0 own W g gs n { p with sk:=p.sk.blanks m } w'):=by
   refine(yO h.sk h.en (by omega) m (by omega) (by omega)).mono ?_;rintro e w'⟨rfl,M⟩;exact⟨rfl,h.sink M⟩
  rw[F]at u;clear h G F
  go_enter func201,ntmps201
  go_wp2_with(first|(go_at_call 199;refine u.out.mono ?_;rintro e O⟨rfl,rfl⟩)|(go_at_call 260;refine I.out.mono ?_;rintro e w2⟨rfl,h2⟩))
  go_end0
  exact⟨rfl,h2⟩
 ·have J:Hid (fT hd B w0 own W g gs n p W):=⟨own,h,Sd.refl _ _,ge _⟩;rw[F]at u;clear h G F
  go_enter func201,ntmps201
  go_wp2_with(first|(go_at_call 199;refine u.out.mono ?_;rintro e O⟨rfl,rfl⟩))
  go_end0
  exact⟨rfl,J.out⟩
theorem nt {hd:nK}{B:Nat}{w0:World}{own:Nat->Nat}{W:World}{g gs n:Nat}{p:Pr}(h:cM hd B w0 own W g gs n p) {U:Nat}(F:Bp p U) (hU:U<=2147483647) :
  Kb 203 #[.pointer (some ⟨g,7,none⟩)] W fun e w'=>e=.returned (.tuple #[])/\fT hd B w0 own W g gs n p.endl w':=by
 have aa:=F.col;have ac:=F.out;have ab:=F.ind;have G:=ku (im h);have c1:=h.c1;have c2:=h.c2;have ad:=h.lt;unfold Pr.endl;cases I:p.sk.fresh
 ·have HB:Hid (∀V,V=W.drew->Kb 261 #[.pointer (some ⟨gs,0,none⟩),.int .i64 p.bl.ind] V fun e w'=>e=.returned (.int .i64 0)/\Hid (fT hd B w0 own W g gs n { p with sk:=p.sk.feed p.bl.ind } w')/\w'.cell? ⟨g,8,none⟩=some (.pointer (some ⟨gs,0,none⟩))/\w'.cell? ⟨g,9,none⟩=some (.int .i64 p.bl.ind)/\w'.cell? ⟨g,13,none⟩=some (.bool p.en)/\w'.frozen? ⟨g,13,none⟩=false):=by
   intro V hV;subst hV;have hd:=h.below (gt _ W).drew;refine(EF hd.sk hd.en (by omega) p.bl.ind (by omega) (by omega)).mono ?_;rintro e w'⟨rfl,ha⟩;obtain⟨own',u,J,H⟩:=hd.sink ha;exact⟨rfl,⟨own',u,J,H⟩,u.c1,u.c2,u.c6,u.fz 13⟩
  rw[I]at G;clear h F I
  go_enter func203,ntmps203
  go_wp2_with(first|(go_at_call 199;refine G.out.mono ?_;rintro e O⟨rfl,rfl⟩))
  go_region_held3 (fun w'=>w'.cell? ⟨g,8,none⟩=some (.pointer (some ⟨gs,0,none⟩))/\w'.cell? ⟨g,9,none⟩=some (.int .i64 p.bl.ind)) (first|(exact⟨by assumption,by assumption⟩)|(exact⟨c1,c2⟩)|go_keep) (first|(go_at_call 261;refine(HB.out _ rfl).mono ?_;rintro e O⟨rfl,HP,x1,x2,x6,f6⟩))
  all_goals(
   go_wp2_with fail
   go_end0
   obtain⟨own',u,J,H⟩:=HP.out;have M:=u.sett true;exact⟨rfl,own',M.1,J.trans H M.2,Kh H (Kp.set _ g 13 (.bool true)).size⟩)
 ·have HE:Hid (fT hd B w0 own W g gs n p W):=⟨own,h,Sd.refl _ _,ge _⟩;rw[I]at G;clear h F I
  go_enter func203,ntmps203
  go_wp2_with(first|(go_at_call 199;refine G.out.mono ?_;rintro e O⟨rfl,rfl⟩))
  go_end0
  exact⟨rfl,HE.out⟩
