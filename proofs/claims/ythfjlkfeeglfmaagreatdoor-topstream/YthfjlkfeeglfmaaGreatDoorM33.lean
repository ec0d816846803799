import Derived.Test.YthfjlkfeeglfmaaGreatDoorM23
import Derived.Test.YthfjlkfeeglfmaaGreatDoorM32
set_option linter.all false
set_option maxHeartbeats 2000000
namespace Go.Proofs.YthfjlkfeeglfmaaGreatDoor
open Go.Proofs.Tryz
open Go.RowKit
variable {l:List Tv}{W:World}{ao:Option Addr}{cap k:Nat}{t:Tv}{E ev:List Ev}{n:Int}
def yN:cG 136:=enters_of func136 (by kernel_rfl) rfl
def qP {X:Sx}{W:World}(h:dj X 0 0 [] W) {E:List Ev}{code:Int}{k:Nat}(ha:gM (.live [] 0) X.l E code k) :
  Sa 135 #[pg X.g,.int .u8 1,fv 136 X.g] W λe w'=>(code=0/\Uk e (.tuple #[])/\E.length<=1000000000/\∃i,dj X i 0 E w')\/(code≠0/\e=.panicked (stop code k)/\Below X.w0.heap.size X.w0 w'):=by
 refine vU h (by simp) (by omega) 1 yN ?_;intro W1 h1;refine(ym h1).mono ?_;rintro e w'⟨dz,Q,hp⟩;obtain⟨t1,t2⟩:=LT ha Q
 rcases hp with⟨z,hi,rfl,S⟩|⟨H,rfl,G⟩
 ·by_cases hc:code=0
  ·obtain⟨_,_,E0,e1,e2⟩:=t1 hc;have J:=(Ad (L:=aD X.l) rfl Q z).2;have I:dz.p.length=0+1:=by rw[J,Mu];rfl
   have O:E=nW X dz++[⟨3,1,av⟩]:=by rw[e2];unfold nW;rw[e1];simp
   have Y:=S.len (by omega);refine .inl ⟨rfl,ps X.l dz.i,0,nW X dz,by rw[<-I];exact S.sv,by omega,by omega,λw2 h2=>.inl ⟨hc,rfl,by rw[O,IO,SR];omega,_,by rw[O];exact h2⟩⟩
  ·obtain⟨u,M⟩:=t2 hc
   exfalso
   rcases u with u|⟨_,_,u⟩
   ·exact hc (u.symm.trans z)
   ·omega
 ·refine .inr ⟨_,rfl,?_⟩
  by_cases hc:code=0
  ·obtain⟨b1,b2,_⟩:=t1 hc;exact absurd (H b1) (by omega)
  ·obtain⟨u,M⟩:=t2 hc
   have he:(if dz.e=0 then(120:Int)else dz.e)=code:=by
    rcases u with u|⟨u,Z,_⟩
    ·rw[u,Eq hc]
    ·rw[Or Z,u]
   exact .inr ⟨hc,by rw[he,M],G⟩
def uG {O:Nat->Prop}{n:bF}{sv:Value}(h:TN O W n sv):∃p cap,sv=.slice p n.c.length cap/\n.c.length<=cap/\cap<=maxLen:=by
 cases n with
 |mk k d c=>
  rw[TN]at h;obtain⟨vs,u,_⟩:=h;exact u.shape
structure Qb (W:World) (E:List Ev) (code:Int) (k:Nat) (e:Ending) (w':World):Prop where
 bel:Below W.heap.size W w'
 ex:∃(n:bF) (sv:Value) (at':Nat),Uk e (.tuple #[dm n.k n.d sv,Tu (if code=0 then(bo E).2 else code),Tu (at':Int)])/\TN (λj=>W.heap.size<=j) w' n sv/\(code=0->at'=0/\n=(bo E).1)/\(code≠0->n=.mk 0 av []/\at'=k)
def kR {a b c:Nat}{k:Int}{d:Tv}{s:Value}{e i:Int}{w:World}(h:Cz a b c (bj k d s) e i w):(w.cell? (Tw a 0)=some (.int .u8 k)/\w.cell? (Tw a 1)=some (.int .u8 d.k)/\w.cell? (Tw a 2)=some (.string d.t)/\w.cell? (Tw a 3)=some (Tu d.a)/\w.cell? (Tw a 4)=some (Tu d.l)/\w.cell? (Tw a 5)=some (Tu d.c)/\w.cell? (Tw a 6)=some (Tu d.f)/\w.cell? (Tw a 7)=some s)/\w.cell? (Tw b 0)=some (Tu e)/\w.cell? (Tw c 0)=some (Tu i):=⟨(aC h.ha).1,aa h.hb rfl,aa h.hc rfl⟩
def vF (hl:Lt W ao l) (hn:l.length<=4194304) {E:List Ev}{code:Int}{k:Nat}(ha:gM (.live [] 0) l E code k) (hc:code≠0) :
  Sa 69 #[.slice ao l.length cap] W (Qb W E code k):=by
 have aa:=mkfn;obtain⟨u,H⟩:=ea (((W.alloc (bj 0 av (.slice none 0 0))).alloc (.cells #[Tu 0] 29)).alloc (.cells #[Tu 0] 3));have ab:u.heap.size=W.heap.size+1+1+1:=by rw[<-H];simp[RT]
 have G:Below W.heap.size W u:=by
  rw[<-H];exact(((gt _ _).alloc (ge _) _).alloc (by simp[RT]) _).alloc (by simp[RT];omega) _
 have c3:Cz W.heap.size (W.heap.size+1) (W.heap.size+1+1) (bj 0 av (.slice none 0 0)) 0 0 u:=by
  rw[<-H];refine⟨aI (aI (ak _ _) _) _,aI ?_ _,?_,by omega,by omega,by omega⟩
  ·have:=ak (W.alloc (bj 0 av (.slice none 0 0))) (.cells #[Tu 0] 29);rw[RT]at this;exact this
  ·have:=ak ((W.alloc (bj 0 av (.slice none 0 0))).alloc (.cells #[Tu 0] 29)) (.cells #[Tu 0] 3);rw[RT,RT]at this;exact this
 have O:dj ⟨u,u.heap.size,ao,cap,l⟩ 0 0 [] (u.alloc (.cells #[.slice ao l.length cap,Tu 0,Tu 0,.slice none 0 0] 214)):=
  ⟨(gt _ _).alloc (ge _) _,hl.below G,ge _,hn,.slice none 0 0,ak _ _,yc _,λk e=>by cases e⟩
 have HN:Hid (Sa 135 #[pg u.heap.size,.int .u8 1,fv 136 u.heap.size] (u.alloc (.cells #[.slice ao l.length cap,Tu 0,Tu 0,.slice none 0 0] 214)) λe w'=>e=.panicked (stop code k)/\Below u.heap.size u w'):=(qP (X:=⟨u,u.heap.size,ao,cap,l⟩) O ha).mono (λe w' hx=>by
  rcases hx with⟨h0,_⟩|⟨_,Q,S⟩
  ·exact absurd h0 hc
  ·exact⟨Q,S⟩)
 have HC:Hid (∀w,Below u.heap.size u w->CallsD Tryz.prog 134 #[pg W.heap.size,pg (W.heap.size+1),pg (W.heap.size+1+1)] (.panicking (stop code k)) w λr Y w'=>Uk r (.tuple #[])/\Y=.panicking [{ v:=.iface 210 (.agg #[Tu code,Tu (k:Int)]),recovered:=true }]/\Cz W.heap.size (W.heap.size+1) (W.heap.size+1+1) (bj 0 av (.slice none 0 0)) code k w'/\Below W.heap.size W w'):=λw I=>(xr _ _ _ _ _ _ _ _ code k w (c3.below I)).mono (λr Y w' ⟨Q,S,h3,h4⟩=>⟨Q,S,h3,lP (G.trans (I.mono G.size)) h4 (λj hj=>by omega) (G.trans (I.mono G.size)).size⟩)
 have HP:Hid (∀w',Below W.heap.size W w'->Qb W E code k (.returned (.tuple #[dm 0 av (.slice none 0 0),Tu code,Tu (k:Int)])) w'):=λw' I=>⟨I,.mk 0 av [],.slice none 0 0,k,by rw[Eq hc];rfl,lx _ _ _ _,λh=>absurd h hc,λ_=>⟨rfl,rfl⟩⟩
 clear hl ha hc O c3 G hn ab;dsimp only[bj,av]at H
 go_enter_defers func69,ntmps69
 (go_wp2_with fail);refine HN.out.mono ?_;rintro e w5⟨rfl,M⟩;have J:=aW M;clear M H HN;(go_wp2_with fail);refine UY (f:=134) (args:=#[pg W.heap.size,pg (W.heap.size+1),pg (W.heap.size+1+1)]) (by simp) (by simp[go_sem]) ?_;refine(HC.out _ J.out).mono ?_;rintro e Y w6⟨rfl,rfl,h6,Z⟩;obtain⟨⟨n0,n1,n2,n3,n4,n5,n6,n7⟩,b0,c0⟩:=kR h6;have hp:=HP.out _ Z;clear HC J HP h6 aa;generalize hv:Ending.returned (.tuple #[dm 0 av (.slice none 0 0),Tu code,Tu (k:Int)])=rv at hp;dsimp only[dm,av]at hv n1 n2 n3 n4 n5 n6;simp[Leaves,settle,results,Tryz.f69,go_sem,n0,n1,n2,n3,n4,n5,n6,n7,b0,c0,hv];exact hp
def sF (hl:Lt W ao l) (hn:l.length<=4194304) {E:List Ev}{k:Nat}(ha:gM (.live [] 0) l E 0 k) :
  Sa 69 #[.slice ao l.length cap] W (Qb W E 0 k):=by
 have an:=mkfn;obtain⟨u,e3⟩:=ea (((W.alloc (bj 0 av (.slice none 0 0))).alloc (.cells #[Tu 0] 29)).alloc (.cells #[Tu 0] 3));have aq:u.heap.size=W.heap.size+1+1+1:=by rw[<-e3];simp[RT]
 have M:Below W.heap.size W u:=by
  rw[<-e3];exact(((gt _ _).alloc (ge _) _).alloc (by simp[RT]) _).alloc (by simp[RT];omega) _
 have c3:Cz W.heap.size (W.heap.size+1) (W.heap.size+1+1) (bj 0 av (.slice none 0 0)) 0 0 u:=by
  rw[<-e3];refine⟨aI (aI (ak _ _) _) _,aI ?_ _,?_,by omega,by omega,by omega⟩
  ·have:=ak (W.alloc (bj 0 av (.slice none 0 0))) (.cells #[Tu 0] 29);rw[RT]at this;exact this
  ·have:=ak ((W.alloc (bj 0 av (.slice none 0 0))).alloc (.cells #[Tu 0] 29)) (.cells #[Tu 0] 3);rw[RT,RT]at this;exact this
 have ah:dj ⟨u,u.heap.size,ao,cap,l⟩ 0 0 [] (u.alloc (.cells #[.slice ao l.length cap,Tu 0,Tu 0,.slice none 0 0] 214)):=
  ⟨(gt _ _).alloc (ge _) _,hl.below M,ge _,hn,.slice none 0 0,ak _ _,yc _,λk e=>by cases e⟩
 have HN:Hid (Sa 135 #[pg u.heap.size,.int .u8 1,fv 136 u.heap.size] (u.alloc (.cells #[.slice ao l.length cap,Tu 0,Tu 0,.slice none 0 0] 214)) λe w'=>Uk e (.tuple #[])/\Below u.heap.size u w'/\∃ao' cap',w'.cell? ⟨u.heap.size,3,none⟩=some (.slice ao' E.length cap')/\u.heap.size<w'.heap.size/\Le w' ao' E/\E.length<=cap'/\cap'<=maxLen/\E.length<=1000000000):=(qP (X:=⟨u,u.heap.size,ao,cap,l⟩) ah ha).mono (λe w' hx=>by
  rcases hx with⟨_,h1,H,i,hs⟩|⟨h0,_⟩
  ·obtain⟨ve,hb,ap,_⟩:=hs.ex;obtain⟨ao',cap',rfl,S,_,h3,h4⟩:=Le.row ap;exact⟨h1,hs.bel,ao',cap',hb.cells.2.2.2,hb.lt,S,h3,h4,H⟩
  ·exact absurd rfl h0)
 have aa:Hid (∀w ao' cap',Le w ao' E->E.length<=cap'->cap'<=maxLen->E.length<=1000000000->Sa 137 #[.slice ao' E.length cap'] w λx w'=>∃sv,Uk x (.tuple #[dm (bo E).1.k (bo E).1.d sv,Tu (bo E).2])/\TN (λk=>w.heap.size<=k) w' (bo E).1 sv/\Below w.heap.size w w'):=λw ao' cap' h1 h2 h3 h4=>DH E w ao' cap' h1 h2 h3 h4
 obtain⟨n,ab⟩:=ea ((bo E).1);obtain⟨bc,Q⟩:=ea ((bo E).2);rw[ab,Q]at aa
 have ad:Hid (∀Z G sv,Below u.heap.size u Z->Below Z.heap.size Z G->TN (λk=>Z.heap.size<=k) G n sv->Cz W.heap.size (W.heap.size+1) (W.heap.size+1+1) (bj 0 av (.slice none 0 0)) 0 0 G/\∃w7,(aH G W.heap.size n.k n.d sv).setCell ⟨W.heap.size+1,0,none⟩ (Tu bc)=w7/\Cz W.heap.size (W.heap.size+1) (W.heap.size+1+1) (bj n.k n.d sv) bc 0 w7/\∃w8,(((aH w7 W.heap.size n.k n.d sv).setCell ⟨W.heap.size+1,0,none⟩ (Tu bc)).setCell ⟨W.heap.size+1+1,0,none⟩ (Tu 0)).drew=w8/\Cz W.heap.size (W.heap.size+1) (W.heap.size+1+1) (bj n.k n.d sv) bc 0 w8/\∀w9,Below w8.heap.size w8 w9->Cz W.heap.size (W.heap.size+1) (W.heap.size+1+1) (bj n.k n.d sv) bc 0 w9/\Qb W E 0 k (.returned (.tuple #[dm n.k n.d sv,Tu bc,Tu 0])) w9):=λZ G sv I O ht=>by
  have b6:Below u.heap.size u G:=I.trans (O.mono I.size);have c6:=c3.below b6;have k1:=dN G W.heap.size n.k n.d sv;have k2:=Kp.set (aH G W.heap.size n.k n.d sv) (W.heap.size+1) 0 (Tu bc);have a1:=fC c6.ha n.k n.d sv
  have c7:Cz W.heap.size (W.heap.size+1) (W.heap.size+1+1) (bj n.k n.d sv) bc 0 ((aH G W.heap.size n.k n.d sv).setCell ⟨W.heap.size+1,0,none⟩ (Tu bc)):=
   ⟨k2.blk a1 c6.ab,ag (k1.blk c6.hb (λx=>c6.ab x.symm)) 0 _,k2.blk (k1.blk c6.hc (λx=>c6.ac x.symm)) (λx=>c6.bc x.symm),c6.ab,c6.ac,c6.bc⟩
  obtain⟨c8,k8⟩:=c7.set n.k n.d sv bc 0;have pY:∀v:World,Below v.heap.size v v.drew:=λv=>(gt _ _).drew
  have K:Kp (λj=>j=W.heap.size\/j=W.heap.size+1\/j=W.heap.size+1+1) G ((((aH ((aH G W.heap.size n.k n.d sv).setCell ⟨W.heap.size+1,0,none⟩ (Tu bc)) W.heap.size n.k n.d sv).setCell ⟨W.heap.size+1,0,none⟩ (Tu bc)).setCell ⟨W.heap.size+1+1,0,none⟩ (Tu 0)).drew):=(((k1.sub (λj hj=>.inl hj)).trans (k2.sub (λj hj=>.inr (.inl hj)))).trans k8).trans (Kp.of_below (pY _));refine⟨c6,_,rfl,c7,_,rfl,c8.below (pY _),λw9 J=>⟨(c8.below (pY _)).below J,?_⟩⟩;have K9:=K.trans (Kp.of_below J);have B6:Below W.heap.size W G:=M.trans (b6.mono M.size);refine⟨lP B6 K9 (λj hj=>by omega) B6.size,n,sv,0,?_,?_,λ_=>⟨rfl,ab.symm⟩,λh=>absurd rfl h⟩
  ·rw[Or rfl,Q];rfl
  ·have ax:=I.size;have t9:=TN.kp K9 (λj hj=>by omega) n sv ht;exact TN.sub (λj _ hj=>by omega) n sv t9
 have HI:Hid (∀w,CallsD Tryz.prog 134 #[pg W.heap.size,pg (W.heap.size+1),pg (W.heap.size+1+1)] .returning w λe u' w'=>Uk e (.tuple #[])/\u'=.returning/\Below w.heap.size w w'):=λw=>yT _ _ _ w
 clear hl ha ah c3 M hn aq ab Q;dsimp only[bj,av]at e3
 go_enter_defers func69,ntmps69
 (go_wp2_with fail);refine HN.out.mono ?_;rintro e Z⟨rfl,I,ao',cap',al,am,S,ae,af,H⟩;have ac:=aW I;have HL:=aW S;clear I e3 HN S;(go_wp2_with fail);refine(aa.out Z ao' cap' HL.out ae af H).mono ?_;rintro e G⟨sv,rfl,ht,O⟩;obtain⟨pv,cv,rfl,_⟩:=uG ht;obtain⟨c6,w7,e7,c7,w8,e8,c8,H9⟩:=ad.out Z G _ ac.out O ht;have HQ:=aW H9;obtain⟨⟨⟨n0,n1,n2,n3,n4,n5,n6,n7⟩,b0,c0⟩,f0,f1,f2,f3,f4,f5,f6,f7⟩:=And.intro (kR c6) (bw c6.ha);have fb:G.frozen? ⟨W.heap.size+1,0,none⟩=false:=aj c6.hb;have la:=ai c6.ha;have lb:=ai c6.hb;have ay:=c6.ab;have az:=c6.ac;have Q:=c6.bc;have ba:=c6.ab.symm;have ar:=c6.ac.symm;have au:=c6.bc.symm;have Y:=aW c7;have C8:=aW c8;have E8:=aW e8;clear c6 c7 c8 e8 H9 ht O ad aa al am HL ac ae af H;generalize W.heap.size+1+1=c at *;generalize W.heap.size+1=b at *;generalize aw:W.heap.size=a at *;unfold aH at e7;dsimp only[dm,av]at n1 n2 n3 n4 n5 n6 ⊢;(go_wp2_with fail);clear n0 n1 n2 n3 n4 n5 n6 n7 b0 c0 f0 f1 f2 f3 f4 f5 f6 f7 fb la lb;obtain⟨⟨⟨n0,n1,n2,n3,n4,n5,n6,n7⟩,b0,c0⟩,f0,f1,f2,f3,f4,f5,f6,f7⟩:=And.intro (kR Y.out) (bw Y.out.ha);have fb:w7.frozen? (Tw b 0)=false:=aj Y.out.hb;have fc:w7.frozen? (Tw c 0)=false:=aj Y.out.hc;have la:=ai Y.out.ha;have lb:=ai Y.out.hb;have lc:=ai Y.out.hc;go_region
 all_goals(
  have e8:=E8.out;unfold aH at e8
  try rw[e8]
  clear e8 n0 n1 n2 n3 n4 n5 n6 n7 b0 c0 f0 f1 f2 f3 f4 f5 f6 f7 fb fc la lb lc;(go_wp2_with fail);refine UY (f:=134) (args:=#[pg a,pg b,pg c]) (by simp) (by simp[go_sem]) ?_;refine(HI.out _).mono ?_;rintro e u' w9⟨rfl,rfl,J⟩;obtain⟨c9,hp⟩:=HQ.out w9 J;obtain⟨⟨n0,n1,n2,n3,n4,n5,n6,n7⟩,b0,c0⟩:=kR c9;clear HQ HI Y C8 E8 c9 J an;generalize hv:Ending.returned (.tuple #[dm n.k n.d (.slice pv n.c.length cv),Tu bc,Tu 0])=rv at hp;dsimp only[dm]at hv;simp[Leaves,settle,results,Tryz.f69,go_sem,n0,n1,n2,n3,n4,n5,n6,n7,b0,c0,hv];exact hp)
def vG (hl:Lt W ao l) (G:l.length<=4194304) {E:List Ev}{code:Int}{k:Nat}(u:gM (.live [] 0) l E code k) :
  Sa 69 #[.slice ao l.length cap] W (Qb W E code k):=by
 by_cases hc:code=0
 ·subst hc;exact sF hl G u
 ·exact vF hl G u hc
def JW (t:Tv):Nat->List It->Int->List Ev->Option (Nat × Ro)
 |0,_,_,_=>none
 |f+1,[],n,E=>some (0,.no)
 |f+1,i :: K,n,E=>match It.step t i with
  |.ref=>some (0,.no)
  |.tk=>some (0,.yes K n E)
  |.go d o r=>match JW t f (r++K) (n+d) (E++o)with
   |some (k,R)=>some (k+1,R)
   |none=>none
def EZ :∀(f:Nat) (K:List It) (n:Int) (E:List Ev) (k:Nat) (R:Ro),JW t f K n E=some (k,R)->Ru t k K n E R
 |0,_,_,_,_,_,h=>by cases h
 |f+1,[],n,E,k,R,h=>by cases h;exact .nil
 |f+1,i :: K,n,E,k,R,h=>by
  simp only[JW]at h;cases u:It.step t i with
  |ref=>rw[u]at h;cases h;exact .ref u
  |tk=>rw[u]at h;cases h;exact .tk u
  |go d o r=>
   rw[u]at h;simp only at h;cases G:JW t f (r++K) (n+d) (E++o)with
   |none=>rw[G]at h;cases h
   |some x=>
    obtain⟨I,H⟩:=x;rw[G]at h;cases h;exact .go u (EZ f _ _ _ _ _ G)
def J8 (t:Tv):mf->Option (List Ev × Int × mf)
 |.live K n=>if(t.k==7||t.k==8)then none else match JW t 20 (beg K n) (jY n) (er n)with
  |some (k,.yes L m E)=>if m<=1000 then some (E++[⟨2,0,t⟩],0,.live L m)else none
  |some (k,.no)=>some ([],120,.stuck 120 n)
  |none=>none
 |_=>none
def EY :∀(f:Nat) (K:List It) (n:Int) (E:List Ev) (k:Nat) (R:Ro),JW t f K n E=some (k,R)->k+1<=f
 |0,_,_,_,_,_,h=>by cases h
 |f+1,[],n,E,k,R,h=>by cases h;omega
 |f+1,i :: K,n,E,k,R,h=>by
  simp only[JW]at h;cases G:It.step t i with
  |ref=>rw[G]at h;cases h;omega
  |tk=>rw[G]at h;cases h;omega
  |go d o r=>
   rw[G]at h;simp only at h;cases u:JW t f (r++K) (n+d) (E++o)with
   |none=>rw[u]at h;cases h
   |some x=>
    obtain⟨I,H⟩:=x;rw[u]at h;cases h;have:=EY f _ _ _ _ _ u;omega
def J7 {st:mf}{x:List Ev × Int × mf}(h:J8 t st=some x):jE t st x.1 x.2.1 x.2.2:=by
 cases st with
 |live K n=>
  simp only[J8]at h
  split at h
  ·cases h
  ·rename_i hc
   have u:(t.k==7||t.k==8)=false:=by simpa using hc
   cases G:JW t 20 (beg K n) (jY n) (er n)with
   |none=>rw[G]at h;cases h
   |some y=>
    obtain⟨k,R⟩:=y;have H:=EZ _ _ _ _ _ _ G;have I:=EY _ _ _ _ _ _ G;rw[G]at h;cases R with
    |no=>cases h;exact .no u H (by omega)
    |yes L m E=>
     simp only at h
     split at h
     ·cases h;exact .yes u H (by omega) (by assumption)
     ·cases h
 |stuck e n=>cases h
 |shut=>cases h
def ze:List Tv->mf->Option (List Ev × Int × Nat)
 |[],.live K n=>if K.length=1 then some ([⟨3,1,av⟩],0,0)else some ([],121,0)
 |[],_=>none
 |t :: l,st=>match J8 t st with
  |some (ev,c,st')=>if c=0 then(match ze l st' with|some (E,c',k)=>some (ev++E,c',k+1)|none=>none)else some ([],c,0)
  |none=>none
def BF:∀(l:List Tv) (st:mf) (E:List Ev) (c:Int) (k:Nat),ze l st=some (E,c,k)->gM st l E c k
 |[],st,E,c,k,h=>by
  cases st with
  |live K n=>
   simp only[ze]at h
   split at h
   ·rename_i u;cases h;exact .nil (.all u)
   ·rename_i u;cases h;exact .nil (.open u)
  |stuck e n=>cases h
  |shut=>cases h
 |t :: l,st,E,c,k,h=>by
  simp only[ze]at h;cases G:J8 t st with
  |none=>rw[G]at h;cases h
  |some x=>
   obtain⟨ev,c1,st'⟩:=x;have u:=J7 G;rw[G]at h;simp only at h u
   split at h
   ·rename_i hc
    subst hc;cases H:ze l st' with
    |none=>rw[H]at h;cases h
    |some y=>
     obtain⟨I,c2,J⟩:=y;rw[H]at h;cases h;exact .on u (BF l st' _ _ _ H)
   ·rename_i hc
    cases h;exact .err u hc
def CI {s s':List Int}{a b:List Ev}(h:cW s (a++b)=some s'):∃G,cW s a=some G:=by
 induction a generalizing s with
 |nil=>exact⟨s,rfl⟩
 |cons e a ih=>
  simp only[cW,R7]at h ⊢
  split
  ·rename_i u;rw[Or u]at h;exact ih h
  ·grind
mutual
def Qr:bF->Prop
 |.mk k d c=>if k=0 then c=[]else c≠[]/\d=av/\pU c
def pU:List bF->Prop
 |[]=>True
 |n :: r=>Qr n/\pU r
end
def pq:∀(a b:List bF),pU a->pU b->pU (a++b)
 |[],b,_,h=>h
 |n :: r,b,h,h'=>by
  simp only[R7,pU]at h ⊢;exact⟨h.1,pq r b h.2 h'⟩
def FS (S:List (Int × List bF)):Prop:=∀x∈S,pU x.2/\x.1≠0
def rF (S:List (Int × List bF)):Prop:=∃k c S',S=(k,c) :: S'/\c≠[]
def pP:∀(c:List Ev) (S:List (Int × List bF)) (s':List Int),(∀e∈c,e.k=3)->cW (S.map (·.1)) c=some s'->s'≠[]->FS S->(c≠[]->rF S)->∃H,H.map (·.1)=s'/\FS H/\(c≠[]->rF H)/\(c=[]->H=S)/\∀rest,fA (c++rest) S=fA rest H
 |[],S,s',_,h,_,hF,hT=>by cases h;exact⟨S,rfl,hF,(λh=>absurd rfl h),λ_=>rfl,λrest=>rfl⟩
 |e :: c,S,s',hc,h,hs,hF,hT=>by
  have h3:=hc e (RZ ..);have h1:¬e.k=1:=by omega
  obtain⟨k,u,S1,rfl,ac⟩:=hT (by simp);simp only[TF,cW,Eq h1,Or h3]at h
  split at h
  ·rename_i hk
   obtain⟨I,c',G,rfl⟩:∃I c' G,S1=(I,c') :: G:=by
    cases S1 with
    |nil=>
     exfalso
     cases c with
     |nil=>simp[cW]at h;exact hs h
     |cons e2 c2=>
      have Z:=hc e2 (by simp);have Y:¬e2.k=1:=by omega
      simp[cW,Y,Z]at h
    |cons x G=>exact⟨x.1,x.2,G,rfl⟩
   have ab:k≠0:=(hF (k,u) (by simp)).2;have Q:Qr (.mk k av u):=by rw[Qr,Eq ab];exact⟨ac,rfl,(hF (k,u) (by simp)).1⟩
   have aa:FS ((I,c'++[.mk k av u]) :: G):=by
    intro x J
    rcases Sm.1 J with rfl|J
    ·have:=hF (I,c') (by simp);exact⟨pq _ _ this.1 (by simp[pU,Q]),this.2⟩
    ·exact hF x (by simp[J])
   have M:rF ((I,c'++[.mk k av u]) :: G):=⟨I,_,G,rfl,by simp⟩;obtain⟨H,a1,a2,a3,a4,a5⟩:=pP c ((I,c'++[.mk k av u]) :: G) s' (λx J=>hc x (R1 _ J)) (by simpa using h) hs aa (λ_=>M);refine⟨H,a1,a2,λ_=>?_,(λh=>by cases h),λrest=>?_⟩
   ·by_cases O:c=[]
    ·rw[a4 O];exact M
    ·exact a3 O
   ·rw[R7,<-a5 rest];simp only[fA,Eq h1,Or h3,Or hk]
  ·cases h
def rC:∀(o:List Ev) (S:List (Int × List bF)) (s':List Int),(∀e∈o,e.k=1/\e.n≠0)->cW (S.map (·.1)) o=some s'->s'.length<=1000->FS S->∃u,u.map (·.1)=s'/\FS u/\S.length<=u.length/\(∀rest,fA (o++rest) S=fA rest u)
 |[],S,s',_,h,_,hF=>by cases h;exact⟨S,rfl,hF,ge _,λrest=>rfl⟩
 |e :: o,S,s',hc,h,hs,hF=>by
  obtain⟨M,O⟩:=hc e (RZ ..);simp only[cW,Or M]at h
  have I:FS ((e.n,[]) :: S):=by
   intro x G
   rcases Sm.1 G with rfl|G
   ·exact⟨trivial,O⟩
   ·exact hF x G
  obtain⟨u,J,Q,Y,Z⟩:=rC o ((e.n,[]) :: S) s' (λx G=>hc x (R1 _ G)) h hs I;have hl:u.length<=1000:=by have:=Sh List.length J;rw[Td]at this;omega
  simp only[List.length_cons]at Y;refine⟨u,J,Q,by omega,λrest=>?_⟩;rw[R7,<-Z rest];simp only[fA,Or M];rw[Eq (by intro H;rcases H with H|H;exact O H;omega)]
def By {t:Tv}{S:List (Int × List bF)}(H:S≠[]) (hF:FS S):∃u,u.map (·.1)=S.map (·.1)/\FS u/\rF u/\∀rest,fA ((if cm t then⟨4,0,t⟩else⟨2,0,t⟩) :: rest) S=fA rest u:=by
 cases S with
 |nil=>exact absurd rfl H
 |cons x S1=>
  obtain⟨k,c⟩:=x;refine⟨(k,c++[.mk 0 t []]) :: S1,rfl,?_,⟨k,_,S1,rfl,by simp⟩,λrest=>?_⟩
  ·intro x G
   rcases Sm.1 G with rfl|G
   ·have:=hF (k,c) (by simp);exact⟨pq _ _ this.1 (by simp[pU,Qr]),this.2⟩
   ·exact hF x (by simp[G])
  ·cases hc:cm t<;>simp[fA,hc]
def O7 {K:List It}{R:Ro}(h:Ru t k K n E R):∀{L:List It}{m:Int}{F:List Ev},R=.yes L m F->∀e∈F,e∈E\/(e.k=1->e.n≠0):=by
 induction h with
 |nil=>intro L m F h;cases h
 |ref _=>intro L m F h;cases h
 |tk hs=>intro L m F h e J;cases h;exact .inl J
 |go hs hr ih=>
  rename_i k i K n d E o r R
  intro L m F h e J
  rcases ih h e J with I|I
  ·rcases Ss.1 I with G|G
   ·exact .inl G
   ·refine .inr (λO=>?_);cases i with
    |fl x=>
     cases x with
     |mt mm=>
      have H:=jS t mm;simp only[It.step,Fl.step]at hs;cases u:M.row t mm with
      |ref=>rw[u]at hs;cases hs
      |ex r'=>rw[u]at hs;cases hs;cases G
      |op nd r'=>
       rw[u]at hs H;cases hs;simp at G;subst G;have:=H.2.2.2.1;show nd≠0;omega
     |_=>simp only[It.step,Fl.step]at hs;split at hs<;>cases hs
    |lv nn=>cases hs;simp at G;subst G;cases O
    |once p=>cases hs;cases G
    |again p=>cases hs;cases G
    |all r'=>cases hs;cases G
  ·exact .inr I
structure Tj (K:List It) (S:List (Int × List bF)):Prop where
 pa:S.map (·.1)=bV K
 fs:FS S
 tn:rF S\/K=cd++[.lv 1]
def Cy {m:Int}{F:List Ev}{L:List It}(h:Ru t k (cd++[.lv 1]) n E (.yes L m F)):F=E:=by
 cases h with
 |tk _=>rfl
 |go hs _=>
  simp only[It.step,Fl.step]at hs
  split at hs<;>cases hs
def FG:∀(o:List Ev) (s s':List Int),(∀e∈o,e.k=1/\e.n≠1)->cW s o=some s'->s'.getLast?=some 1->s≠[]
 |[],s,s',_,h,hl=>by cases h;intro e;subst e;cases hl
 |e :: o,s,s',u,h,hl=>by
  obtain⟨M,O⟩:=u e (by simp);simp only[cW,Or M]at h;intro J;subst J
  have I:∀(o:List Ev) (s s':List Int) (x:Int),(∀e∈o,e.k=1)->cW s o=some s'->s.getLast?=some x->s'.getLast?=some x:=by
   intro o
   induction o with
   |nil=>intro s s' x _ h G;cases h;exact G
   |cons e2 o ih=>
    intro s s' x u h G;simp only[cW,Or (u e2 (by simp))]at h;refine ih (e2.n :: s) s' x (λy H=>u y (by simp[H])) h ?_;cases s with
    |nil=>cases G
    |cons y s=>simpa using G
  have:=I o [e.n] s' e.n (λy H=>(u y (by simp[H])).1) h rfl;rw[this]at hl;exact O (by simpa using hl)
def lu:∀(l:List Tv) (K:List It) (n:Int) (S:List (Int × List bF)) (E:List Ev) (k:Nat),gJ (.live K n)->IX K->Tj K S->gM (.live K n) l E 0 k->∃c,fA E S=some (.mk 1 av c)/\c≠[]/\pU c
 |[],K,n,S,E,k,hg,G,hj,h=>by
  obtain⟨hc,rfl⟩:=h.end;cases hc with
  |all hh=>
   have hK:K=[.lv 1]:=by
    rcases G with G|⟨X,hX⟩
    ·exact G
    ·rw[hX]at hh;simp at hh
   subst hK;have O:=hj.pa
   rcases hj.tn with⟨k0,c,S',rfl,af⟩|ht
   ·simp[bV]at O;obtain⟨rfl,rfl⟩:=O;refine⟨c,?_,af,(hj.fs (1,c) (by simp)).1⟩;simp[fA]
   ·cases ht
 |t :: l,K,n,S,E,k,hg,G,hj,h=>by
  have hn:=gF hg G;obtain⟨b1,b2,b3⟩:=iR (K:=K) hn;obtain⟨g1,g2,g3,g4,g5,gbot,gbn,gbe⟩:=df hg
  have Z:S≠[]:=by
   intro e;have:=hj.pa;rw[e]at this
   have h2:1<=(bV K).length:=by
    rcases G with rfl|⟨X,rfl⟩
    ·decide
    ·rw[bH];simp[bV]
   rw[<-this]at h2;simp at h2
  rcases h.inv with⟨ev,st',O,ae,rfl,rfl⟩|⟨ev,st',E2,k2,O,I,rfl,rfl⟩
  ·exact absurd rfl ae
  ·have M:=(dP hg O).1;cases O with
   |note hh=>
    rw[b1,b2]at I M;obtain⟨S',a1,a2,a3,Q⟩:=By (t:=t) Z hj.fs;have J:cm t=true:=hh;rw[J]at Q;obtain⟨c,c1,c2,c3⟩:=lu l K n S' E2 k2 M G ⟨a1.trans hj.pa,a2,.inl a3⟩ I;refine⟨c,?_,c2,c3⟩;rw[b3,SI,List.singleton_append,<-c1];exact Q E2
   |yes hh hR hk hm2=>
    rename_i L m2 E1 k1
    obtain⟨c1,c2,c3,o,c4,c5,c6,c7⟩:=fM hR rfl g1 g2 g3;obtain⟨cc,oo,d1,d2,d3⟩:=ET hR rfl g1;have Y:=O7 hR rfl;have hL:=sh hR rfl (by rw[b1];exact G);rw[b3,SI]at c4 d1;obtain rfl:o=cc++oo:=c4.symm.trans d1;rw[b1]at c5 hR;rw[b3]at hR Y;obtain⟨s1,p1⟩:=CI c5;have p2:cW s1 oo=some (bV L):=by rw[<-c5,dQ _ _ _ _ p1]
    have u:(bV L).getLast?=some 1:=by
     rcases hL with rfl|⟨X,rfl⟩
     ·rfl
     ·rw[bH];simp[bV]
    have ag:=FG oo s1 _ (λe H=>⟨d3 e H,(c6 e (To _ H)).2.2 (d3 e H)⟩) p2 u
    have aa:cc≠[]->rF S:=by
     intro ad
     rcases hj.tn with ht|ht
     ·exact ht
     ·subst ht;have:=Cy hR;rw[c4]at this;simp at this;exact absurd this.1 ad
    obtain⟨S1,e1,e2,e3,e4,e5⟩:=pP cc S s1 d2 (by rw[hj.pa];exact p1) ag hj.fs aa
    obtain⟨S2,f1,f2,f3,f4⟩:=rC oo S1 (bV L) (λe H=>⟨d3 e H,by
     rcases Y e (by rw[c4];exact To _ H)with h1|h1
     ·cases h1
     ·exact h1 (d3 e H)⟩) (by rw[e1];exact p2) (by omega) e2
    have ac:S2≠[]:=by
     intro e;rw[e]at f1;have ab:bV L=[]:=f1.symm;rw[ab]at u;cases u
    obtain⟨S3,a1,a2,a3,Q⟩:=By (t:=t) ac f2;have J:cm t=false:=hh;rw[J]at Q;obtain⟨c,x1,x2,x3⟩:=lu l L m2 S3 E2 k2 M hL ⟨a1.trans f1,a2,.inl a3⟩ I;refine⟨c,?_,x2,x3⟩;rw[c4,RW,RW,e5,f4,<-x1];exact Q E2
def IC (h:gM (.live [] 0) l E 0 k):∃c,fA E []=some (.mk 1 av c)/\c≠[]/\pU c:=by
 by_cases hl:l=[]
 ·subst hl;obtain⟨hc,rfl⟩:=h.end;cases hc with
  |all hh=>simp at hh
 ·obtain⟨G,H,I⟩:=mb h hl;obtain⟨c,c1,c2,c3⟩:=lu l _ 1 [(1,[])] G k pj iQ ⟨rfl,(λx u=>by simp at u;subst u;exact⟨trivial,by decide⟩),.inr rfl⟩ H;refine⟨c,?_,c2,c3⟩;rw[I rfl,<-c1];simp[fA]
def Qf (st:mf):Prop:=st=.live [] 0\/∃K n,st=.live K n/\IX K/\n≠0
def J2 {st st':mf}(M:gJ st) (G:Qf st) (J:jE t st ev 0 st'):gJ st'/\Qf st':=by
 have H:=(dP M J).1;refine⟨H,?_⟩
 have I:∀K n,st=.live K n->IX (beg K n):=by
  intro K n e
  rcases G with G|⟨K',Q,G,I,O⟩
  ·rw[G]at e;cases e;exact iQ
  ·rw[G]at e;cases e;rw[(iR O).1];exact I
 cases J with
 |stuck=>rcases G with G|⟨_,_,G,_⟩<;>cases G
 |note hh=>
  have u:=I _ _ rfl;exact .inr ⟨_,_,rfl,u,gF H u⟩
 |yes hh hR hk hm=>
  have u:=sh hR rfl (I _ _ rfl);exact .inr ⟨_,_,rfl,u,gF H u⟩
def KL:Qf (.live [] 0):=.inl rfl
def DC {st:mf}{c:Int}(G:Qf st) (h:xz st ev c):(c=0/\∃n,st=.live [.lv 1] n/\n≠0)\/c=121:=by
 rcases G with rfl|⟨K,n,rfl,u,H⟩
 ·cases h with
  |all hh=>simp at hh
  | «open» hh=>exact .inr rfl
 ·cases h with
  |all hh=>
   refine .inl ⟨rfl,n,?_,H⟩
   rcases u with rfl|⟨X,rfl⟩
   ·rfl
   ·simp at hh
  | «open» hh=>exact .inr rfl
structure Qp (W:World) (E:List Ev) (code:Int) (a:Nat) (e:Ending) (w':World):Prop where
 bel:Below W.heap.size W w'
 ex:∃(n:bF) (p:Option Addr) (cv:Nat),Uk e (.tuple #[dm n.k n.d (.slice p n.c.length cv),Tu code,Tu ((if code=0 then 0 else a:Nat):Int)])/\TN (λj=>W.heap.size<=j) w' n (.slice p n.c.length cv)/\(code=0->fA E []=some n)/\(code≠0->n=.mk 0 av [])
def LH {n:bF}(h:fA E []=some n):bo E=(n,0):=by unfold bo;rw[h]
def sH (hl:Lt W ao l) (Q:l.length<=4194304) {E:List Ev}{code:Int}{a:Nat}(H:gM (.live [] 0) l E code a) :
  Sa 69 #[.slice ao l.length cap] W (Qp W E code a):=by
 refine(vG hl Q H).mono ?_;rintro e w'⟨I,n,sv,S,G,ht,J,M⟩;obtain⟨p,cv,rfl,_⟩:=uG ht
 by_cases hc:code=0
 ·subst hc;obtain⟨c,u,_⟩:=IC H;have O:=LH u;obtain⟨rfl,rfl⟩:=J rfl;rw[O]at G ht;exact⟨I,_,p,cv,G,ht,λ_=>u,λh=>absurd rfl h⟩
 ·obtain⟨rfl,rfl⟩:=M hc;rw[Eq hc]at G;exact⟨I,_,p,cv,by rw[Eq hc];exact G,ht,λh=>absurd h hc,λ_=>rfl⟩
def uF (e:Ev):Option Tv:=if e.k=2\/e.k=4 then some e.d else none
def Qk (e:Ev):Prop:=Ay e=e
def sS {e:Ev}(u:e.k=1\/e.k=3) (hd:e.d=av):Qk e/\uF e=none:=by
 obtain⟨k,n,d⟩:=e;simp only at u hd;subst hd;refine⟨by simp[Qk,Ay,u],?_⟩;unfold uF;rw[Eq (by simp only;omega)]
def lW:∀(o:List Ev),(∀e∈o,uF e=none)->o.filterMap uF=[]
 |[],_=>rfl
 |e :: o,h=>by rw[List.filterMap_cons_none (h e (by simp))];exact lW o (λx u=>h x (by simp[u]))
def ov:∀(l:List Tv) (K:List It) (n:Int) (E:List Ev) (k:Nat),gJ (.live K n)->IX K->gM (.live K n) l E 0 k->E.filterMap uF=l/\∀e∈E,Qk e
 |[],K,n,E,k,hg,hb,h=>by
  obtain⟨hc,rfl⟩:=h.end;cases hc with
  |all hh=>
   have:=sS (e:=⟨3,1,av⟩) (.inr rfl) rfl;exact⟨lW _ (λe u=>by simp at u;subst u;exact this.2),λe u=>by simp at u;subst u;exact this.1⟩
 |t :: l,K,n,E,k,hg,hb,h=>by
  have hn:=gF hg hb;obtain⟨S,b2,Y⟩:=iR (K:=K) hn;obtain⟨g1,g2,g3,g4,g5,gbot,gbn,gbe⟩:=df hg
  rcases h.inv with⟨ev,st',M,O,rfl,rfl⟩|⟨ev,st',Q,Z,M,G,rfl,rfl⟩
  ·exact absurd rfl O
  ·have H:=(dP hg M).1;cases M with
   |note hh=>
    rw[S,b2]at G H;obtain⟨I,J⟩:=ov l K n Q Z H hb G;rw[Y];refine⟨by simp[uF,I],λe u=>?_⟩;simp at u
    rcases u with rfl|u
    ·rfl
    ·exact J e u
   |yes hh hR hk hm2=>
    rename_i L m2 E1 k1
    obtain⟨c1,c2,c3,o,c4,c5,c6,c7⟩:=fM hR rfl g1 g2 g3;have hL:=sh hR rfl (by rw[S];exact hb);obtain⟨I,J⟩:=ov l L m2 Q Z H hL G;rw[c4,Y];have ho:=lW o (λe u=>(sS (c6 e u).2.1 (c6 e u).1).2);refine⟨by simp[uF,I,ho],λe u=>?_⟩;simp at u
    rcases u with u|rfl|u
    ·exact(sS (c6 e u).2.1 (c6 e u).1).1
    ·rfl
    ·exact J e u
def xv (h:gM (.live [] 0) l E 0 k):E.filterMap uF=l/\E.map Ay=E:=by
 have fin:∀E:List Ev,(∀e∈E,Qk e)->E.map Ay=E:=by
  intro E
  induction E with
  |nil=>intro _;rfl
  |cons e E ih=>intro h;rw[TF,h e (by simp),ih (λx J=>h x (by simp[J]))]
 by_cases hl:l=[]
 ·subst hl;obtain⟨hc,rfl⟩:=h.end;cases hc with
  |all hh=>simp at hh
 ·obtain⟨u,H,I⟩:=mb h hl;obtain⟨a1,a2⟩:=ov l _ 1 u k pj iQ H;have G:=sS (e:=⟨1,1,av⟩) (.inl rfl) rfl;rw[I rfl];exact⟨by rw[List.filterMap_cons_none G.2];exact a1,by rw[TF,fin u a2,show Ay ⟨1,1,av⟩=⟨1,1,av⟩from G.1]⟩
def IG:∀{l:List Tv}{st:mf}{E:List Ev}{code:Int}{a:Nat},gJ st->Qf st->gM st l E code a->code≠0->((code=121↔a=l.length)/\a<=l.length)
 |[],st,E,code,a,hg,hi,h,hc=>by
  obtain⟨H,rfl⟩:=h.end
  rcases DC hi H with⟨u,_⟩|u
  ·exact absurd u hc
  ·exact⟨⟨λ_=>rfl,λ_=>u⟩,ge _⟩
 |t :: l,st,E,code,a,hg,hi,h,hc=>by
  rcases h.inv with⟨ev,st',G,J,rfl,rfl⟩|⟨ev,st',M,O,G,I,rfl,rfl⟩
  ·have:code≠121:=by
    rcases hi with rfl|⟨K,n,rfl,_⟩
    ·cases G<;>simp_all
    ·cases G<;>simp_all
   exact⟨⟨λh=>absurd h this,λh=>by simp at h⟩,RU _⟩
  ·obtain⟨H,u⟩:=J2 hg hi G;obtain⟨h3,h4⟩:=IG H u I hc;refine⟨?_,by simp;omega⟩;rw[h3];simp
abbrev ri (c x y z:Int):Obj:=.cells #[Tu c,Tu x,Tu y,Tu z] 88
abbrev pE (g:Nat):Value:=.iface 86 (.pointer (some ⟨g,0,none⟩))
def rj (x y z:Int) (W:World):Sa 12 #[Tu 0,.agg #[Tu x,Tu y,Tu z]] W λr w'=>Uk r .nilIface/\Below W.heap.size W w':=by
 go_enter func12,ntmps12;(go_wp2_with fail)
 go_ret;exact⟨rfl,(gt _ _).alloc (ge _) _⟩
def jv (c x y z:Int) (hc:c≠0) (W:World):Sa 12 #[Tu c,.agg #[Tu x,Tu y,Tu z]] W λr w'=>∃g,Uk r (pE g)/\w'.heap[g]?=some (ri c x y z)/\W.heap.size<=g/\Below W.heap.size W w':=by
 have q:(c==0)=false:=by simpa using hc
 obtain⟨W1,u⟩:=ea (W.alloc (.cells #[Tu x,Tu y,Tu z] 45));have G:Hid (Se W W1):=by rw[<-u];exact(gt _ _).alloc (ge _) _
 have c0:W1.cell? ⟨W.heap.size,0,none⟩=some (Tu x):=by rw[<-u];exact aa (ak _ _) rfl
 have c1:W1.cell? ⟨W.heap.size,1,none⟩=some (Tu y):=by rw[<-u];exact aa (ak _ _) rfl
 have c2:W1.cell? ⟨W.heap.size,2,none⟩=some (Tu z):=by rw[<-u];exact aa (ak _ _) rfl
 go_enter func12,ntmps12;(go_wp2_with fail)
 try rw[u]
 clear u;(go_wp2_with fail);go_ret;exact⟨_,rfl,ak _ _,G.out.size,G.out.alloc G.out.size _⟩
def Cv {W V:World}{g:Nat}{k0:Int}{d0:Tv}{s0:Value}(h:V.heap[g]?=some (bj k0 d0 s0)) (u:Below W.heap.size W V) (G:W.heap.size<=g) (k:Int) (d:Tv) (s:Value):(aH V g k d s).heap[g]?=some (bj k d s)/\Below W.heap.size W (aH V g k d s)/\Kp (λj=>j=g) V (aH V g k d s):=
 ⟨fC h k d s,Kp.low u (dN V g k d s) (λk e=>by subst e;exact G) u.size,dN V g k d s⟩
def Qq (W:World) (E:List Ev) (r:Ending) (w':World):Prop:=∃n p cv,Uk r (.tuple #[dm n.k n.d (.slice p n.c.length cv),.nilIface])/\TN (λj=>W.heap.size<=j) w' n (.slice p n.c.length cv)/\fA E []=some n/\Below W.heap.size W w'
def py (hl:Lt W ao l) (hn:l.length<=4194304) {E:List Ev}{a:Nat}(ha:gM (.live [] 0) l E 0 a) :
  Sa 29 #[.slice ao l.length cap] W (Qq W E):=by
 obtain⟨W0,J⟩:=ea (W.alloc (bj 0 av (.slice none 0 0)));have h0:Below W.heap.size W W0:=by rw[<-J];exact(gt _ _).alloc (ge _) _
 have hz:W0.heap.size=W.heap.size+1:=by rw[<-J];simp
 have Q:W0.heap[W.heap.size]?=some (bj 0 av (.slice none 0 0)):=by rw[<-J];exact ak _ _
 have HP:Hid (Sa 69 #[.slice ao l.length cap] W0 (Qp W0 E 0 a)):=sH (hl.below h0) hn ha;have M:Hid (Below W.heap.size W W0/\W0.heap.size=W.heap.size+1/\W0.heap[W.heap.size]?=some (bj 0 av (.slice none 0 0))):=⟨h0,hz,Q⟩;obtain⟨g,hg⟩:=ea W.heap.size;dsimp only[bj,av]at J;clear hl hn ha h0 hz Q;go_enter func29,ntmps29;(go_wp2_with fail)
 try rw[J]
 try rw[hg]
 clear J;refine HP.out.mono ?_;rintro e w4⟨I,n,p,H,rfl,ht,Y,aa⟩;obtain⟨u,eV4⟩:=ea (w4.alloc (bj n.k n.d (.slice p n.c.length H)));obtain⟨g4,hg4⟩:=ea w4.heap.size
 have G:Hid (Below W0.heap.size W0 u/\u.heap[g4]?=some (bj n.k n.d (.slice p n.c.length H))/\TN (λj=>W0.heap.size<=j) u n (.slice p n.c.length H)/\u.heap[g]?=some (bj 0 av (.slice none 0 0))/\fA E []=some n):=by
  have hx:Below w4.heap.size w4 u:=by rw[<-eV4];exact(gt _ _).alloc (ge _) _
  have hy:Below W0.heap.size W0 u:=I.trans (hx.mono I.size);exact⟨hy,by rw[<-eV4,<-hg4];exact ak _ _,TN.kp (Kp.of_below (S:=λ_=>False) hx) (λ_ _ h=>h) n _ ht,af (by rw[<-hg];exact M.out.2.2) hy,Y rfl⟩
 dsimp only[bj]at eV4;obtain⟨⟨c0,c1,c2,c3,c4,c5,c6,c7⟩,cl⟩:=aC G.out.2.1;obtain⟨⟨r0,r1,r2,r3,r4,r5,r6,r7⟩,rl⟩:=aC G.out.2.2.2.1;obtain⟨f0,f1,f2,f3,f4,f5,f6,f7⟩:=bw G.out.2.2.2.1;clear I ht Y aa HP;(go_wp2_with fail)
 try rw[eV4]
 try rw[hg4]
 clear eV4 hg4;(go_wp2_with fail);have Z:=Cv (W:=W) (g:=g) G.out.2.2.2.1 (M.out.1.trans (G.out.1.mono M.out.1.size)) (by omega) n.k n.d (.slice p n.c.length H);obtain⟨w9,e9⟩:=ea (aH u g n.k n.d (.slice p n.c.length H));rw[e9]at Z;dsimp only[aH]at e9;rw[e9];obtain⟨⟨x0,x1,x2,x3,x4,x5,x6,x7⟩,xl⟩:=aC Z.1;refine R0 (v:=.tuple #[dm n.k n.d (.slice p n.c.length H),.nilIface]) (by simp[results,Tryz.f29,go_sem,x0,x1,x2,x3,x4,x5,x6,x7]) rfl ?_;refine⟨n,p,H,rfl,TN.sub (O:=λj=>W0.heap.size<=j) (λk _ h=>?_) n _ (TN.kp Z.2.2 (λk h e=>?_) n _ G.out.2.2.1),G.out.2.2.2.2,Z.2.1⟩
 ·have:=M.out.2.1;show W.heap.size<=k;have h':W0.heap.size<=k:=h;omega
 ·have:=M.out.2.1;have h':W0.heap.size<=k:=h;have e':k=g:=e;omega
def Dg (hl:Lt W ao l) (hn:l.length<=4194304) {E:List Ev}{a:Nat}{code:Int}(ha:gM (.live [] 0) l E code a) (hc:code≠0) {t:Tv}(J:l[a]?=some t) :
  Sa 29 #[.slice ao l.length cap] W λr w'=>∃g,Uk r (.tuple #[dm 0 av (.slice none 0 0),pE g])/\w'.heap[g]?=some (ri code t.a t.l t.c)/\W.heap.size<=g/\Below W.heap.size W w':=by
 obtain⟨W0,O⟩:=ea (W.alloc (bj 0 av (.slice none 0 0)));have h0:Below W.heap.size W W0:=by rw[<-O];exact(gt _ _).alloc (ge _) _
 have hz:W0.heap.size=W.heap.size+1:=by rw[<-O];simp
 have Y:W0.heap[W.heap.size]?=some (bj 0 av (.slice none 0 0)):=by rw[<-O];exact ak _ _
 have HP:Hid (Sa 69 #[.slice ao l.length cap] W0 (Qp W0 E code a)):=sH (hl.below h0) hn ha;have S:Hid (Below W.heap.size W W0/\W0.heap.size=W.heap.size+1/\W0.heap[W.heap.size]?=some (bj 0 av (.slice none 0 0))/\Lt W0 ao l):=⟨h0,hz,Y,hl.below h0⟩;obtain⟨g,hg⟩:=ea W.heap.size;have HF:Hid (∀V,Sa 12 #[Tu code,.agg #[Tu t.a,Tu t.l,Tu t.c]] V λr w'=>∃g,Uk r (pE g)/\w'.heap[g]?=some (ri code t.a t.l t.c)/\V.heap.size<=g/\Below V.heap.size V w'):=λV=>jv code t.a t.l t.c hc V
 have ac:=(RY.1 J).1;have q1:(a:Int)<l.length:=by omega
 have q0:(0:Int)<=a:=by omega
 have q2:(code==0)=false:=by simpa using hc
 have Z:((if code=0 then 0 else a:Nat):Int)=a:=by rw[Eq hc]
 have HT:Hid (∀V,Below W0.heap.size W0 V->∃b u,ao=some (Tw b u)/\V.cell? ⟨b,u+a*6+2,none⟩=some (Tu t.a)/\V.cell? ⟨b,u+a*6+3,none⟩=some (Tu t.l)/\V.cell? ⟨b,u+a*6+4,none⟩=some (Tu t.c)):=λV hb=>by
  obtain⟨b,u,e,_,_,y2,y3,y4,_⟩:=(S.out.2.2.2.below hb) a t J;exact⟨b,u,e,y2,y3,y4⟩
 dsimp only[bj,av]at O;clear hl hn ha h0 hz Y J hc;go_enter func29,ntmps29;(go_wp2_with fail)
 try rw[O]
 try rw[hg]
 clear O;refine HP.out.mono ?_;rintro e w4⟨M,n,p,cv,rfl,ht,aa,ab⟩;rw[Z];obtain⟨G,eV4⟩:=ea (w4.alloc (bj n.k n.d (.slice p n.c.length cv)));obtain⟨g4,hg4⟩:=ea w4.heap.size
 have H4:Hid (Below W0.heap.size W0 G/\G.heap[g]?=some (bj 0 av (.slice none 0 0))):=by
  have hx:Below w4.heap.size w4 G:=by rw[<-eV4];exact(gt _ _).alloc (ge _) _
  have hy:Below W0.heap.size W0 G:=M.trans (hx.mono M.size);exact⟨hy,af (by rw[<-hg];exact S.out.2.2.1) hy⟩
 dsimp only[bj]at eV4;obtain⟨b,u,rfl,y2,y3,y4⟩:=HT.out G H4.out.1;clear M ht aa ab HP Z;(go_wp2_with fail)
 try rw[eV4]
 try rw[hg4]
 clear eV4 hg4
 go_wp2_with(go_at_call 12;refine(HF.out _).mono ?_;rintro r w5⟨Q,rfl,y5,y6,y7⟩;have H:Hid (w5.heap[Q]?=some (ri code t.a t.l t.c)/\G.heap.size<=Q/\Below G.heap.size G w5/\w5.heap[g]?=some (bj 0 av (.slice none 0 0))):=⟨y5,y6,y7,af H4.out.2 y7⟩;clear y5 y6 y7;obtain⟨⟨r0,r1,r2,r3,r4,r5,r6,r7⟩,rl⟩:=aC H.out.2.2.2;obtain⟨f0,f1,f2,f3,f4,f5,f6,f7⟩:=bw H.out.2.2.2)
 have I:Below W.heap.size W G:=S.out.1.trans (H4.out.1.mono S.out.1.size);have h9:=Cv (W:=W) (g:=g) H.out.2.2.2 (I.trans (H.out.2.2.1.mono I.size)) (by omega) 0 av (.slice none 0 0);obtain⟨w9,e9⟩:=ea (aH w5 g 0 av (.slice none 0 0));rw[e9]at h9;dsimp only[aH,av]at e9;rw[e9];obtain⟨⟨x0,x1,x2,x3,x4,x5,x6,x7⟩,xl⟩:=aC h9.1;dsimp only[av]at x0 x1 x2 x3 x4 x5 x6 x7;refine R0 (v:=.tuple #[dm 0 av (.slice none 0 0),pE Q]) (by simp[results,Tryz.f29,go_sem,x0,x1,x2,x3,x4,x5,x6,x7,av]) rfl ?_;have h5:=H.out.2.1;have h6:=I.size;have h7:=H4.out.1.size;have h8:=S.out.2.1;refine⟨Q,rfl,?_,by omega,h9.2.1⟩;have hz:=h9.2.2.block Q (ai H.out.1) (λe=>by have e':Q=g:=e;omega);rw[hz];exact H.out.1
def Df (hl:Lt W ao l) (hn:l.length<=4194304) {E:List Ev}{a:Nat}{code:Int}(ha:gM (.live [] 0) l E code a) (hc:code≠0) (ab:a=l.length) :
  Sa 29 #[.slice ao l.length cap] W λr w'=>Uk r (.tuple #[dm 0 av (.slice none 0 0),.iface 29 (Tu code)])/\Below W.heap.size W w':=by
 obtain⟨W0,H⟩:=ea (W.alloc (bj 0 av (.slice none 0 0)));have Y:Below W.heap.size W W0:=by rw[<-H];exact(gt _ _).alloc (ge _) _
 have I:W0.heap[W.heap.size]?=some (bj 0 av (.slice none 0 0)):=by rw[<-H];exact ak _ _
 have HP:Hid (Sa 69 #[.slice ao l.length cap] W0 (Qp W0 E code a)):=sH (hl.below Y) hn ha;have Q:Hid (Below W.heap.size W W0/\W0.heap[W.heap.size]?=some (bj 0 av (.slice none 0 0))):=⟨Y,I⟩;obtain⟨g,hg⟩:=ea W.heap.size;have q1:¬((a:Int)<l.length):=by omega
 have q2:(code==0)=false:=by simpa using hc
 have J:((if code=0 then 0 else a:Nat):Int)=a:=by rw[Eq hc]
 dsimp only[bj,av]at H;clear hl hn ha Y I ab hc;go_enter func29,ntmps29;(go_wp2_with fail)
 try rw[H]
 try rw[hg]
 clear H;refine HP.out.mono ?_;rintro e O⟨G,n,p,cv,rfl,ht,ac,ad⟩;rw[J];obtain⟨u,eV4⟩:=ea (O.alloc (bj n.k n.d (.slice p n.c.length cv)));obtain⟨g4,hg4⟩:=ea O.heap.size
 have M:Hid (Below W0.heap.size W0 u/\u.heap[g]?=some (bj 0 av (.slice none 0 0))):=by
  have hx:Below O.heap.size O u:=by rw[<-eV4];exact(gt _ _).alloc (ge _) _
  have hy:Below W0.heap.size W0 u:=G.trans (hx.mono G.size);exact⟨hy,af (by rw[<-hg];exact Q.out.2) hy⟩
 dsimp only[bj]at eV4;obtain⟨⟨r0,r1,r2,r3,r4,r5,r6,r7⟩,rl⟩:=aC M.out.2;obtain⟨f0,f1,f2,f3,f4,f5,f6,f7⟩:=bw M.out.2;clear G ht ac ad HP J;(go_wp2_with fail)
 try rw[eV4]
 try rw[hg4]
 clear eV4 hg4;(go_wp2_with fail);have aa:Below W.heap.size W u:=Q.out.1.trans (M.out.1.mono Q.out.1.size);have Z:=Cv (W:=W) (g:=g) M.out.2 aa (by omega) 0 av (.slice none 0 0);obtain⟨w9,S⟩:=ea (aH u g 0 av (.slice none 0 0));rw[S]at Z;dsimp only[aH,av]at S;rw[S];obtain⟨⟨x0,x1,x2,x3,x4,x5,x6,x7⟩,xl⟩:=aC Z.1;dsimp only[av]at x0 x1 x2 x3 x4 x5 x6 x7;refine R0 (v:=.tuple #[dm 0 av (.slice none 0 0),.iface 29 (Tu code)]) (by simp[results,Tryz.f29,go_sem,x0,x1,x2,x3,x4,x5,x6,x7,av]) rfl ?_;exact⟨rfl,Z.2.1⟩
