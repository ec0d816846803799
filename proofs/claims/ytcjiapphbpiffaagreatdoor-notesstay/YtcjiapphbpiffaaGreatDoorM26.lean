import Derived.Test.YtcjiapphbpiffaaGreatDoorM16
import Derived.Test.YtcjiapphbpiffaaGreatDoorM25
set_option linter.unusedVariables false
set_option linter.unusedSimpArgs false
set_option maxHeartbeats 2000000
namespace Go.Proofs.YtcjiapphbpiffaaGreatDoor
open Go.RowKit
variable {l:List Tv}{W:World}{ao:Option Addr}{cap k:Nat}{E ev:List Ev}{t:Tv}{n:Int}
theorem yW:dv 116:=enters_of Tryz.func116 (by kernel_rfl) rfl
theorem rB {X:Sx}{W:World}(h:ej X 0 0 [] W) {E:List Ev}{code:Int}{k:Nat}(ha:gS (.live [] 0) X.l E code k) :
  Ta 115 #[pg X.g,.int .u8 1,fv 116 X.g] W fun e w'=>(code=0/\e=.returned (.tuple #[])/\E.length<=1000000000/\∃i,ej X i 0 E w')\/(code≠0/\e=.panicked (stop code k)/\Below X.w0.heap.size X.w0 w'):=by
 refine wb h (by simp) (by omega) 1 yW ?_;intro W1 h1;refine (yx h1).mono ?_;rintro e w' ⟨dz,Q,hp⟩;obtain ⟨t1,t2⟩:=L5 ha Q
 rcases hp with ⟨z,hi,rfl,S⟩|⟨H,rfl,G⟩
 ·by_cases F:code=0
  ·obtain ⟨_,_,E0,e1,e2⟩:=t1 F;have J:=(Ah (L:=aG X.l) rfl Q z).2;have I:dz.p.length=0+1:=by rw [J,MG];rfl
   have O:E=oq X dz++[⟨3,1,aB⟩]:=by rw [e2];unfold oq;rw [e1];simp
   have U:=S.len (by omega);refine .inl ⟨rfl,ps X.l dz.i,0,oq X dz,by rw [<-I];exact S.sv,by omega,by omega,fun w2 h2=>.inl ⟨F,rfl,by rw [O,Or,UX];omega,_,by rw [O];exact h2⟩⟩
  ·obtain ⟨C,M⟩:=t2 F
   exfalso
   rcases C with C|⟨_,_,C⟩
   ·exact F (C.symm.trans z)
   ·omega
 ·refine .inr ⟨_,rfl,?_⟩
  by_cases F:code=0
  ·obtain ⟨Z,b2,_⟩:=t1 F;exact absurd (H Z) (by omega)
  ·obtain ⟨C,M⟩:=t2 F
   have he:(if dz.e=0 then (120:Int) else dz.e)=code:=by
    rcases C with C|⟨C,Y,_⟩
    ·rw [C,Eq F]
    ·rw [IO Y,C]
   exact .inr ⟨F,by rw [he,M],G⟩
theorem uZ {O:Nat->Prop}{n:bQ}{sv:Value}(h:TN O W n sv):∃p cap,sv=.slice p n.c.length cap/\n.c.length<=cap/\cap<=maxLen:=by
 cases n with
 |mk k d c=>
  rw [TN] at h;obtain ⟨vs,C,_⟩:=h;exact C.shape
structure QM (W:World) (E:List Ev) (code:Int) (k:Nat) (e:Ending) (w':World):Prop where
 bel:Below W.heap.size W w'
 ex:∃(n:bQ) (sv:Value) (at':Nat),e=.returned (.tuple #[eF n.k n.d sv,.int .i64 (if code=0 then (bo E).2 else code),.int .i64 (at':Int)])/\TN (fun j=>W.heap.size<=j) w' n sv/\(code=0->at'=0/\n=(bo E).1)/\(code≠0->n=.mk 0 aB []/\at'=k)
theorem li {a b c:Nat}{k:Int}{d:Tv}{s:Value}{e i:Int}{w:World}(h:Cz a b c (bz k d s) e i w):(w.cell? ⟨a,0,none⟩=some (.int .u8 k)/\w.cell? ⟨a,1,none⟩=some (.int .u8 d.k)/\w.cell? ⟨a,2,none⟩=some (.string d.t)/\w.cell? ⟨a,3,none⟩=some (.int .i64 d.a)/\w.cell? ⟨a,4,none⟩=some (.int .i64 d.l)/\w.cell? ⟨a,5,none⟩=some (.int .i64 d.c)/\w.cell? ⟨a,6,none⟩=some (.int .i64 d.f)/\w.cell? ⟨a,7,none⟩=some s)/\w.cell? ⟨b,0,none⟩=some (.int .i64 e)/\w.cell? ⟨c,0,none⟩=some (.int .i64 i):=⟨(aE h.ha).1,af h.hb rfl,af h.hc rfl⟩
theorem vO (hl:Lt W ao l) (hn:l.length<=4194304) {E:List Ev}{code:Int}{k:Nat}(ha:gS (.live [] 0) l E code k) (hc:code≠0) :
  Ta 67 #[.slice ao l.length cap] W (QM W E code k):=by
 have Y:=mkfn;obtain ⟨C,G⟩:∃C,((W.alloc (bz 0 aB (.slice none 0 0))).alloc (.cells #[.int .i64 0] 55)).alloc (.cells #[.int .i64 0] 3)=C:=⟨_,rfl⟩;have Z:C.heap.size=W.heap.size+1+1+1:=by rw [<-G];simp [SX]
 have F:Below W.heap.size W C:=by
  rw [<-G];exact (((hH _ _).alloc (gt _) _).alloc (by simp [SX]) _).alloc (by simp [SX];omega) _
 have c3:Cz W.heap.size (W.heap.size+1) (W.heap.size+1+1) (bz 0 aB (.slice none 0 0)) 0 0 C:=by
  rw [<-G];refine ⟨aD (aD (aq _ _) _) _,aD ?_ _,?_,by omega,by omega,by omega⟩
  ·have:=aq (W.alloc (bz 0 aB (.slice none 0 0))) (.cells #[.int .i64 0] 55);rw [SX] at this;exact this
  ·have:=aq ((W.alloc (bz 0 aB (.slice none 0 0))).alloc (.cells #[.int .i64 0] 55)) (.cells #[.int .i64 0] 3);rw [SX,SX] at this;exact this
 have M:ej ⟨C,C.heap.size,ao,cap,l⟩ 0 0 [] (C.alloc (.cells #[.slice ao l.length cap,.int .i64 0,.int .i64 0,.slice none 0 0] 192)):=
  ⟨(hH _ _).alloc (gt _) _,hl.below F,gt _,hn,.slice none 0 0,aq _ _,yq _,fun k e=>by cases e⟩
 have HN:Hid (Ta 115 #[pg C.heap.size,.int .u8 1,fv 116 C.heap.size] (C.alloc (.cells #[.slice ao l.length cap,.int .i64 0,.int .i64 0,.slice none 0 0] 192)) fun e w'=>e=.panicked (stop code k)/\Below C.heap.size C w'):=(rB (X:=⟨C,C.heap.size,ao,cap,l⟩) M ha).mono (fun e w' hx=>by
  rcases hx with ⟨h0,_⟩|⟨_,O,Q⟩
  ·exact absurd h0 hc
  ·exact ⟨O,Q⟩)
 have HC:Hid (∀w,Below C.heap.size C w->CallsD Tryz.prog 114 #[pg W.heap.size,pg (W.heap.size+1),pg (W.heap.size+1+1)] (.panicking (stop code k)) w fun r S w'=>r=.returned (.tuple #[])/\S=.panicking [{ v:=.iface 188 (.agg #[.int .i64 code,.int .i64 (k:Int)]),recovered:=true }]/\Cz W.heap.size (W.heap.size+1) (W.heap.size+1+1) (bz 0 aB (.slice none 0 0)) code k w'/\Below W.heap.size W w'):=fun w H=>(xv _ _ _ _ _ _ _ _ code k w (c3.below H)).mono (fun r S w' ⟨O,Q,h3,h4⟩=>⟨O,Q,h3,l9 (F.trans (H.mono F.size)) h4 (fun j hj=>by omega) (F.trans (H.mono F.size)).size⟩)
 have HP:Hid (∀w',Below W.heap.size W w'->QM W E code k (.returned (.tuple #[eF 0 aB (.slice none 0 0),.int .i64 code,.int .i64 (k:Int)])) w'):=fun w' H=>⟨H,.mk 0 aB [],.slice none 0 0,k,by rw [Eq hc];rfl,lH _ _ _ _,fun h=>absurd h hc,fun _=>⟨rfl,rfl⟩⟩
 clear hl ha hc M c3 F hn Z
 dsimp only [bz,aB] at G
 go_enter_defers Tryz.func67,Tryz.ntmps67
 go_wp2_with fail
 refine HN.out.mono ?_;rintro e w5 ⟨rfl,J⟩;have I:=ai J;clear J G HN
 go_wp2_with fail
 refine Vx (f:=114) (args:=#[pg W.heap.size,pg (W.heap.size+1),pg (W.heap.size+1+1)]) (by simp) (by simp [go_sem]) ?_;refine (HC.out _ I.out).mono ?_;rintro e S w6 ⟨rfl,rfl,h6,U⟩;obtain ⟨⟨n0,n1,n2,n3,n4,n5,n6,n7⟩,b0,c0⟩:=li h6;have hp:=HP.out _ U;clear HC I HP h6 Y
 generalize hv:Ending.returned (.tuple #[eF 0 aB (.slice none 0 0),.int .i64 code,.int .i64 (k:Int)])=rv at hp
 dsimp only [eF,aB] at hv n1 n2 n3 n4 n5 n6
 simp [Leaves,settle,results,Tryz.f67,go_sem,n0,n1,n2,n3,n4,n5,n6,n7,b0,c0,hv];exact hp
theorem sY (hl:Lt W ao l) (hn:l.length<=4194304) {E:List Ev}{k:Nat}(ha:gS (.live [] 0) l E 0 k) :
  Ta 67 #[.slice ao l.length cap] W (QM W E 0 k):=by
 have ak:=mkfn;obtain ⟨C,e3⟩:∃C,((W.alloc (bz 0 aB (.slice none 0 0))).alloc (.cells #[.int .i64 0] 55)).alloc (.cells #[.int .i64 0] 3)=C:=⟨_,rfl⟩;have an:C.heap.size=W.heap.size+1+1+1:=by rw [<-e3];simp [SX]
 have J:Below W.heap.size W C:=by
  rw [<-e3];exact (((hH _ _).alloc (gt _) _).alloc (by simp [SX]) _).alloc (by simp [SX];omega) _
 have c3:Cz W.heap.size (W.heap.size+1) (W.heap.size+1+1) (bz 0 aB (.slice none 0 0)) 0 0 C:=by
  rw [<-e3];refine ⟨aD (aD (aq _ _) _) _,aD ?_ _,?_,by omega,by omega,by omega⟩
  ·have:=aq (W.alloc (bz 0 aB (.slice none 0 0))) (.cells #[.int .i64 0] 55);rw [SX] at this;exact this
  ·have:=aq ((W.alloc (bz 0 aB (.slice none 0 0))).alloc (.cells #[.int .i64 0] 55)) (.cells #[.int .i64 0] 3);rw [SX,SX] at this;exact this
 have af:ej ⟨C,C.heap.size,ao,cap,l⟩ 0 0 [] (C.alloc (.cells #[.slice ao l.length cap,.int .i64 0,.int .i64 0,.slice none 0 0] 192)):=
  ⟨(hH _ _).alloc (gt _) _,hl.below J,gt _,hn,.slice none 0 0,aq _ _,yq _,fun k e=>by cases e⟩
 have HN:Hid (Ta 115 #[pg C.heap.size,.int .u8 1,fv 116 C.heap.size] (C.alloc (.cells #[.slice ao l.length cap,.int .i64 0,.int .i64 0,.slice none 0 0] 192)) fun e w'=>e=.returned (.tuple #[])/\Below C.heap.size C w'/\∃ao' cap',w'.cell? ⟨C.heap.size,3,none⟩=some (.slice ao' E.length cap')/\C.heap.size<w'.heap.size/\Le w' ao' E/\E.length<=cap'/\cap'<=maxLen/\E.length<=1000000000):=(rB (X:=⟨C,C.heap.size,ao,cap,l⟩) af ha).mono (fun e w' hx=>by
  rcases hx with ⟨_,h1,G,i,hs⟩|⟨h0,_⟩
  ·obtain ⟨ve,hb,al,_⟩:=hs.ex;obtain ⟨ao',cap',rfl,Q,_,h3,h4⟩:=Le.row al;exact ⟨h1,hs.bel,ao',cap',hb.cells.2.2.2,hb.lt,Q,h3,h4,G⟩
  ·exact absurd rfl h0)
 have Y:Hid (∀w ao' cap',Le w ao' E->E.length<=cap'->cap'<=maxLen->E.length<=1000000000->Ta 117 #[.slice ao' E.length cap'] w fun x w'=>∃sv,x=.returned (.tuple #[eF (bo E).1.k (bo E).1.d sv,.int .i64 (bo E).2])/\TN (fun k=>w.heap.size<=k) w' (bo E).1 sv/\Below w.heap.size w w'):=fun w ao' cap' h1 h2 h3 h4=>DE E w ao' cap' h1 h2 h3 h4
 obtain ⟨n,aa⟩:∃n,(bo E).1=n:=⟨_,rfl⟩;obtain ⟨bc,O⟩:∃bc,(bo E).2=bc:=⟨_,rfl⟩;rw [aa,O] at Y
 have ac:Hid (∀U F sv,Below C.heap.size C U->Below U.heap.size U F->TN (fun k=>U.heap.size<=k) F n sv->Cz W.heap.size (W.heap.size+1) (W.heap.size+1+1) (bz 0 aB (.slice none 0 0)) 0 0 F/\∃w7,(aJ F W.heap.size n.k n.d sv).setCell ⟨W.heap.size+1,0,none⟩ (.int .i64 bc)=w7/\Cz W.heap.size (W.heap.size+1) (W.heap.size+1+1) (bz n.k n.d sv) bc 0 w7/\∃w8,(((aJ w7 W.heap.size n.k n.d sv).setCell ⟨W.heap.size+1,0,none⟩ (.int .i64 bc)).setCell ⟨W.heap.size+1+1,0,none⟩ (.int .i64 0)).drew=w8/\Cz W.heap.size (W.heap.size+1) (W.heap.size+1+1) (bz n.k n.d sv) bc 0 w8/\∀w9,Below w8.heap.size w8 w9->Cz W.heap.size (W.heap.size+1) (W.heap.size+1+1) (bz n.k n.d sv) bc 0 w9/\QM W E 0 k (.returned (.tuple #[eF n.k n.d sv,.int .i64 bc,.int .i64 0])) w9):=fun U F sv H M ht=>by
  have b6:Below C.heap.size C F:=H.trans (M.mono H.size);have c6:=c3.below b6;have k1:=eJ F W.heap.size n.k n.d sv;have k2:=Kp.set (aJ F W.heap.size n.k n.d sv) (W.heap.size+1) 0 (.int .i64 bc);have a1:=gk c6.ha n.k n.d sv
  have c7:Cz W.heap.size (W.heap.size+1) (W.heap.size+1+1) (bz n.k n.d sv) bc 0 ((aJ F W.heap.size n.k n.d sv).setCell ⟨W.heap.size+1,0,none⟩ (.int .i64 bc)):=
   ⟨k2.blk a1 c6.ab,aj (k1.blk c6.hb (fun x=>c6.ab x.symm)) 0 _,k2.blk (k1.blk c6.hc (fun x=>c6.ac x.symm)) (fun x=>c6.bc x.symm),c6.ab,c6.ac,c6.bc⟩
  obtain ⟨c8,k8⟩:=c7.set n.k n.d sv bc 0;have Z:∀v:World,Below v.heap.size v v.drew:=fun v=>(hH _ _).drew
  have K:Kp (fun j=>j=W.heap.size\/j=W.heap.size+1\/j=W.heap.size+1+1) F ((((aJ ((aJ F W.heap.size n.k n.d sv).setCell ⟨W.heap.size+1,0,none⟩ (.int .i64 bc)) W.heap.size n.k n.d sv).setCell ⟨W.heap.size+1,0,none⟩ (.int .i64 bc)).setCell ⟨W.heap.size+1+1,0,none⟩ (.int .i64 0)).drew):=(((k1.sub (fun j hj=>.inl hj)).trans (k2.sub (fun j hj=>.inr (.inl hj)))).trans k8).trans (Kp.of_below (Z _));refine ⟨c6,_,rfl,c7,_,rfl,c8.below (Z _),fun w9 I=>⟨(c8.below (Z _)).below I,?_⟩⟩;have K9:=K.trans (Kp.of_below I);have B6:Below W.heap.size W F:=J.trans (b6.mono J.size);refine ⟨l9 B6 K9 (fun j hj=>by omega) B6.size,n,sv,0,?_,?_,fun _=>⟨rfl,aa.symm⟩,fun h=>absurd rfl h⟩
  ·rw [IO rfl,O];rfl
  ·have aw:=H.size;have t9:=TN.kp K9 (fun j hj=>by omega) n sv ht;exact TN.sub (fun j _ hj=>by omega) n sv t9
 have HI:Hid (∀w,CallsD Tryz.prog 114 #[pg W.heap.size,pg (W.heap.size+1),pg (W.heap.size+1+1)] .returning w fun e u' w'=>e=.returned (.tuple #[])/\u'=.returning/\Below w.heap.size w w'):=fun w=>zk _ _ _ w
 clear hl ha af c3 J hn an aa O
 dsimp only [bz,aB] at e3
 go_enter_defers Tryz.func67,Tryz.ntmps67
 go_wp2_with fail
 refine HN.out.mono ?_;rintro e U ⟨rfl,H,ao',cap',ag,ah,Q,ad,ae,G⟩;have ab:=ai H;have HL:=ai Q;clear H e3 HN Q
 go_wp2_with fail
 refine (Y.out U ao' cap' HL.out ad ae G).mono ?_;rintro e F ⟨sv,rfl,ht,M⟩;obtain ⟨pv,cv,rfl,_⟩:=uZ ht;obtain ⟨c6,w7,e7,c7,w8,e8,c8,H9⟩:=ac.out U F _ ab.out M ht;have HQ:=ai H9;obtain ⟨⟨⟨n0,n1,n2,n3,n4,n5,n6,n7⟩,b0,c0⟩,f0,f1,f2,f3,f4,f5,f6,f7⟩:=And.intro (li c6) (bH c6.ha);have fb:F.frozen? ⟨W.heap.size+1,0,none⟩=false:=am c6.hb;have la:=au c6.ha;have lb:=au c6.hb;have ax:=c6.ab;have ay:=c6.ac;have O:=c6.bc;have az:=c6.ab.symm;have ap:=c6.ac.symm;have ar:=c6.bc.symm;have S:=ai c7;have C8:=ai c8;have E8:=ai e8;clear c6 c7 c8 e8 H9 ht M ac Y ag ah HL ab ad ae G
 generalize W.heap.size+1+1=c at *
 generalize W.heap.size+1=b at *
 generalize av:W.heap.size=a at *
 unfold aJ at e7
 dsimp only [eF,aB] at n1 n2 n3 n4 n5 n6 ⊢
 go_wp2_with fail
 clear n0 n1 n2 n3 n4 n5 n6 n7 b0 c0 f0 f1 f2 f3 f4 f5 f6 f7 fb la lb;obtain ⟨⟨⟨n0,n1,n2,n3,n4,n5,n6,n7⟩,b0,c0⟩,f0,f1,f2,f3,f4,f5,f6,f7⟩:=And.intro (li S.out) (bH S.out.ha);have fb:w7.frozen? ⟨b,0,none⟩=false:=am S.out.hb;have fc:w7.frozen? ⟨c,0,none⟩=false:=am S.out.hc;have la:=au S.out.ha;have lb:=au S.out.hb;have lc:=au S.out.hc
 go_region
 all_goals (
  have e8:=E8.out;unfold aJ at e8
  try rw [e8]
  clear e8 n0 n1 n2 n3 n4 n5 n6 n7 b0 c0 f0 f1 f2 f3 f4 f5 f6 f7 fb fc la lb lc
  go_wp2_with fail
  refine Vx (f:=114) (args:=#[pg a,pg b,pg c]) (by simp) (by simp [go_sem]) ?_;refine (HI.out _).mono ?_;rintro e u' w9 ⟨rfl,rfl,I⟩;obtain ⟨c9,hp⟩:=HQ.out w9 I;obtain ⟨⟨n0,n1,n2,n3,n4,n5,n6,n7⟩,b0,c0⟩:=li c9;clear HQ HI S C8 E8 c9 I ak
  generalize hv:Ending.returned (.tuple #[eF n.k n.d (.slice pv n.c.length cv),.int .i64 bc,.int .i64 0])=rv at hp
  dsimp only [eF] at hv
  simp [Leaves,settle,results,Tryz.f67,go_sem,n0,n1,n2,n3,n4,n5,n6,n7,b0,c0,hv];exact hp)
theorem vP (G:Lt W ao l) (H:l.length<=4194304) {E:List Ev}{code:Int}{k:Nat}(C:gS (.live [] 0) l E code k) :
  Ta 67 #[.slice ao l.length cap] W (QM W E code k):=by
 by_cases F:code=0
 ·subst F;exact sY G H C
 ·exact vO G H C F
theorem Cw {s s':List Int}{a b:List Ev}(h:cJ s (a++b)=some s'):∃F,cJ s a=some F:=by
 induction a generalizing s with
 |nil=>exact ⟨s,rfl⟩
 |cons e a ih=>
  simp only [cJ,Tr] at h ⊢
  split
  ·rename_i C;rw [IO C] at h;exact ih h
  ·grind
mutual
def Q7:bQ->Prop
 |.mk k d c=>if k=0 then c=[] else c≠[]/\d=aB/\qC c
def qC:List bQ->Prop
 |[]=>True
 |n :: r=>Q7 n/\qC r
end
theorem pX:∀(a b:List bQ),qC a->qC b->qC (a++b)
 |[],b,_,h=>h
 |n :: r,b,h,h'=>by
  simp only [Tr,qC] at h ⊢;exact ⟨h.1,pX r b h.2 h'⟩
def FS (S:List (Int × List bQ)):Prop:=∀x∈S,qC x.2/\x.1≠0
def se (S:List (Int × List bQ)):Prop:=∃k c S',S=(k,c) :: S'/\c≠[]
theorem qw:∀(c:List Ev) (S:List (Int × List bQ)) (s':List Int),(∀e∈c,e.k=3)->cJ (S.map (·.1)) c=some s'->s'≠[]->FS S->(c≠[]->se S)->∃G,G.map (·.1)=s'/\FS G/\(c≠[]->se G)/\(c=[]->G=S)/\∀rest,gx (c++rest) S=gx rest G
 |[],S,s',_,h,_,hF,hT=>by cases h;exact ⟨S,rfl,hF,(fun h=>absurd rfl h),fun _=>rfl,fun rest=>rfl⟩
 |e :: c,S,s',hc,h,hs,hF,hT=>by
  have h3:=hc e (S4 ..);have h1:¬e.k=1:=by omega
  obtain ⟨k,C,S1,rfl,ab⟩:=hT (by simp);simp only [T1,cJ,Eq h1,IO h3] at h
  split at h
  ·rename_i hk
   obtain ⟨H,I,F,rfl⟩:∃H I F,S1=(H,I) :: F:=by
    cases S1 with
    |nil=>
     exfalso
     cases c with
     |nil=>simp [cJ] at h;exact hs h
     |cons e2 c2=>
      have Y:=hc e2 (by simp);have U:¬e2.k=1:=by omega
      simp [cJ,U,Y] at h
    |cons x F=>exact ⟨x.1,x.2,F,rfl⟩
   have aa:k≠0:=(hF (k,C) (by simp)).2;have Q:Q7 (.mk k aB C):=by rw [Q7,Eq aa];exact ⟨ab,rfl,(hF (k,C) (by simp)).1⟩
   have Z:FS ((H,I++[.mk k aB C]) :: F):=by
    intro x J
    rcases Tt.1 J with rfl|J
    ·have:=hF (H,I) (by simp);exact ⟨pX _ _ this.1 (by simp [qC,Q]),this.2⟩
    ·exact hF x (by simp [J])
   have M:se ((H,I++[.mk k aB C]) :: F):=⟨H,_,F,rfl,by simp⟩;obtain ⟨G,a1,a2,a3,a4,a5⟩:=qw c ((H,I++[.mk k aB C]) :: F) s' (fun x J=>hc x (SZ _ J)) (by simpa using h) hs Z (fun _=>M);refine ⟨G,a1,a2,fun _=>?_,(fun h=>by cases h),fun rest=>?_⟩
   ·by_cases O:c=[]
    ·rw [a4 O];exact M
    ·exact a3 O
   ·rw [Tr,<-a5 rest];simp only [gx,Eq h1,IO h3,IO hk]
  ·cases h
theorem r9:∀(o:List Ev) (S:List (Int × List bQ)) (s':List Int),(∀e∈o,e.k=1/\e.n≠0)->cJ (S.map (·.1)) o=some s'->s'.length<=1000->FS S->∃C,C.map (·.1)=s'/\FS C/\S.length<=C.length/\(∀rest,gx (o++rest) S=gx rest C)
 |[],S,s',_,h,_,hF=>by cases h;exact ⟨S,rfl,hF,gt _,fun rest=>rfl⟩
 |e :: o,S,s',hc,h,hs,hF=>by
  obtain ⟨J,M⟩:=hc e (S4 ..);simp only [cJ,IO J] at h
  have H:FS ((e.n,[]) :: S):=by
   intro x F
   rcases Tt.1 F with rfl|F
   ·exact ⟨trivial,M⟩
   ·exact hF x F
  obtain ⟨C,I,O,Q,U⟩:=r9 o ((e.n,[]) :: S) s' (fun x F=>hc x (SZ _ F)) h hs H;have Y:C.length<=1000:=by have:=Tm List.length I;rw [UC] at this;omega
  simp only [List.length_cons] at Q;refine ⟨C,I,O,by omega,fun rest=>?_⟩;rw [Tr,<-U rest];simp only [gx,IO J];rw [Eq (by intro G;rcases G with G|G;exact M G;omega)]
theorem Br {t:Tv}{S:List (Int × List bQ)}(G:S≠[]) (hF:FS S):∃C,C.map (·.1)=S.map (·.1)/\FS C/\se C/\∀rest,gx ((if cm t then ⟨4,0,t⟩ else ⟨2,0,t⟩) :: rest) S=gx rest C:=by
 cases S with
 |nil=>exact absurd rfl G
 |cons x S1=>
  obtain ⟨k,c⟩:=x;refine ⟨(k,c++[.mk 0 t []]) :: S1,rfl,?_,⟨k,_,S1,rfl,by simp⟩,fun rest=>?_⟩
  ·intro x F
   rcases Tt.1 F with rfl|F
   ·have:=hF (k,c) (by simp);exact ⟨pX _ _ this.1 (by simp [qC,Q7]),this.2⟩
   ·exact hF x (by simp [F])
  ·cases H:cm t <;> simp [gx,H]
theorem PN {K:List It}{R:Ro}(h:Ru t k K n E R):∀{L:List It}{m:Int}{F:List Ev},R=.yes L m F->∀e∈F,e∈E\/(e.k=1->e.n≠0):=by
 induction h with
 |nil=>intro L m F h;cases h
 |ref _=>intro L m F h;cases h
 |tk hs=>intro L m F h e J;cases h;exact .inl J
 |go hs hr ih=>
  rename_i k i K n d E o r R
  intro L m F h e J
  rcases ih h e J with I|I
  ·rcases To.1 I with G|G
   ·exact .inl G
   ·refine .inr (fun O=>?_);cases i with
    |fl x=>
     cases x with
     |mt mm=>
      have H:=io t mm;simp only [It.step,Fl.step] at hs;cases C:M.row t mm with
      |ref=>rw [C] at hs;cases hs
      |ex r'=>rw [C] at hs;cases hs;cases G
      |op nd r'=>
       rw [C] at hs H;cases hs;simp at G;subst G;have:=H.2.2.2.1;show nd≠0;omega
     |_=>simp only [It.step,Fl.step] at hs;split at hs <;> cases hs
    |lv nn=>cases hs;simp at G;subst G;cases O
    |once p=>cases hs;cases G
    |again p=>cases hs;cases G
    |all r'=>cases hs;cases G
  ·exact .inr I
structure Tj (K:List It) (S:List (Int × List bQ)):Prop where
 pa:S.map (·.1)=bM K
 fs:FS S
 tn:se S\/K=ci++[.lv 1]
theorem Cr {m:Int}{F:List Ev}{L:List It}(h:Ru t k (ci++[.lv 1]) n E (.yes L m F)):F=E:=by
 cases h with
 |tk _=>rfl
 |go hs _=>
  simp only [It.step,Fl.step] at hs
  split at hs <;> cases hs
theorem Fs:∀(o:List Ev) (s s':List Int),(∀e∈o,e.k=1/\e.n≠1)->cJ s o=some s'->s'.getLast?=some 1->s≠[]
 |[],s,s',_,h,hl=>by cases h;intro e;subst e;cases hl
 |e :: o,s,s',C,h,hl=>by
  obtain ⟨J,M⟩:=C e (by simp);simp only [cJ,IO J] at h;intro I;subst I
  have H:∀(o:List Ev) (s s':List Int) (x:Int),(∀e∈o,e.k=1)->cJ s o=some s'->s.getLast?=some x->s'.getLast?=some x:=by
   intro o
   induction o with
   |nil=>intro s s' x _ h F;cases h;exact F
   |cons e2 o ih=>
    intro s s' x C h F;simp only [cJ,IO (C e2 (by simp))] at h;refine ih (e2.n :: s) s' x (fun y G=>C y (by simp [G])) h ?_;cases s with
    |nil=>cases F
    |cons y s=>simpa using F
  have:=H o [e.n] s' e.n (fun y G=>(C y (by simp [G])).1) h rfl;rw [this] at hl;exact M (by simpa using hl)
theorem lG:∀(l:List Tv) (K:List It) (n:Int) (S:List (Int × List bQ)) (E:List Ev) (k:Nat),gu (.live K n)->IR K->Tj K S->gS (.live K n) l E 0 k->∃c,gx E S=some (.mk 1 aB c)/\c≠[]/\qC c
 |[],K,n,S,E,k,hg,F,hj,h=>by
  obtain ⟨hc,rfl⟩:=h.end;cases hc with
  |all hh=>
   have hK:K=[.lv 1]:=by
    rcases F with F|⟨X,hX⟩
    ·exact F
    ·rw [hX] at hh;simp at hh
   subst hK;have M:=hj.pa
   rcases hj.tn with ⟨k0,c,S',rfl,ae⟩|ht
   ·simp [bM] at M;obtain ⟨rfl,rfl⟩:=M;refine ⟨c,?_,ae,(hj.fs (1,c) (by simp)).1⟩;simp [gx]
   ·cases ht
 |t :: l,K,n,S,E,k,hg,F,hj,h=>by
  have hn:=ic hg F;obtain ⟨b1,b2,b3⟩:=jj (K:=K) hn;obtain ⟨g1,g2,g3,g4,g5,gbot,gbn,gbe⟩:=cQ hg
  have U:S≠[]:=by
   intro e;have:=hj.pa;rw [e] at this
   have h2:1<=(bM K).length:=by
    rcases F with rfl|⟨X,rfl⟩
    ·decide
    ·rw [bO];simp [bM]
   rw [<-this] at h2;simp at h2
  rcases h.inv with ⟨ev,st',M,ad,rfl,rfl⟩|⟨ev,st',Z,k2,M,H,rfl,rfl⟩
  ·exact absurd rfl ad
  ·have J:=(dU hg M).1;cases M with
   |note hh=>
    rw [b1,b2] at H J;obtain ⟨S',a1,a2,a3,O⟩:=Br (t:=t) U hj.fs;have I:cm t=true:=hh;rw [I] at O;obtain ⟨c,c1,c2,c3⟩:=lG l K n S' Z k2 J F ⟨a1.trans hj.pa,a2,.inl a3⟩ H;refine ⟨c,?_,c2,c3⟩;rw [b3,TB,List.singleton_append,<-c1];exact O Z
   |yes hh hR hk hm2=>
    rename_i L m2 E1 k1
    obtain ⟨c1,c2,c3,o,c4,c5,c6,c7⟩:=eM hR rfl g1 g2 g3;obtain ⟨cc,oo,d1,d2,d3⟩:=EK hR rfl g1;have Q:=PN hR rfl;have hL:=sO hR rfl (by rw [b1];exact F);rw [b3,TB] at c4 d1;obtain rfl:o=cc++oo:=c4.symm.trans d1;rw [b1] at c5 hR;rw [b3] at hR Q;obtain ⟨s1,p1⟩:=Cw c5;have p2:cJ s1 oo=some (bM L):=by rw [<-c5,dV _ _ _ _ p1]
    have C:(bM L).getLast?=some 1:=by
     rcases hL with rfl|⟨X,rfl⟩
     ·rfl
     ·rw [bO];simp [bM]
    have af:=Fs oo s1 _ (fun e G=>⟨d3 e G,(c6 e (Ub _ G)).2.2 (d3 e G)⟩) p2 C
    have Y:cc≠[]->se S:=by
     intro ac
     rcases hj.tn with ht|ht
     ·exact ht
     ·subst ht;have:=Cr hR;rw [c4] at this;simp at this;exact absurd this.1 ac
    obtain ⟨S1,e1,e2,e3,e4,e5⟩:=qw cc S s1 d2 (by rw [hj.pa];exact p1) af hj.fs Y
    obtain ⟨S2,f1,f2,f3,f4⟩:=r9 oo S1 (bM L) (fun e G=>⟨d3 e G,by
     rcases Q e (by rw [c4];exact Ub _ G) with h1|h1
     ·cases h1
     ·exact h1 (d3 e G)⟩) (by rw [e1];exact p2) (by omega) e2
    have ab:S2≠[]:=by
     intro e;rw [e] at f1;have aa:bM L=[]:=f1.symm;rw [aa] at C;cases C
    obtain ⟨S3,a1,a2,a3,O⟩:=Br (t:=t) ab f2;have I:cm t=false:=hh;rw [I] at O;obtain ⟨c,x1,x2,x3⟩:=lG l L m2 S3 Z k2 J hL ⟨a1.trans f1,a2,.inl a3⟩ H;refine ⟨c,?_,x2,x3⟩;rw [c4,S5,S5,e5,f4,<-x1];exact O Z
theorem Iq (h:gS (.live [] 0) l E 0 k):∃c,gx E []=some (.mk 1 aB c)/\c≠[]/\qC c:=by
 by_cases C:l=[]
 ·subst C;obtain ⟨J,rfl⟩:=h.end;cases J with
  |all hh=>simp at hh
 ·obtain ⟨G,H,I⟩:=my h C;obtain ⟨c,c1,c2,c3⟩:=lG l _ 1 [(1,[])] G k pS ji ⟨rfl,(fun x F=>by simp at F;subst F;exact ⟨trivial,by decide⟩),.inr rfl⟩ H;refine ⟨c,?_,c2,c3⟩;rw [I rfl,<-c1];simp [gx]
def QQ (st:qU):Prop:=st=.live [] 0\/∃K n,st=.live K n/\IR K/\n≠0
theorem JX {st st':qU}(J:gu st) (F:QQ st) (I:kn t st ev 0 st'):gu st'/\QQ st':=by
 have G:=(dU J I).1;refine ⟨G,?_⟩
 have H:∀K n,st=.live K n->IR (beg K n):=by
  intro K n e
  rcases F with F|⟨K',O,F,H,M⟩
  ·rw [F] at e;cases e;exact ji
  ·rw [F] at e;cases e;rw [(jj M).1];exact H
 cases I with
 |stuck=>rcases F with F|⟨_,_,F,_⟩ <;> cases F
 |note hh=>
  have C:=H _ _ rfl;exact .inr ⟨_,_,rfl,C,ic G C⟩
 |yes hh hR hk hm=>
  have C:=sO hR rfl (H _ _ rfl);exact .inr ⟨_,_,rfl,C,ic G C⟩
theorem KO:QQ (.live [] 0):=.inl rfl
theorem Dx {st:qU}{c:Int}(F:QQ st) (h:xG st ev c):(c=0/\∃n,st=.live [.lv 1] n/\n≠0)\/c=121:=by
 rcases F with rfl|⟨K,n,rfl,C,G⟩
 ·cases h with
  |all hh=>simp at hh
  | «open» hh=>exact .inr rfl
 ·cases h with
  |all hh=>
   refine .inl ⟨rfl,n,?_,G⟩
   rcases C with rfl|⟨X,rfl⟩
   ·rfl
   ·simp at hh
  | «open» hh=>exact .inr rfl
structure Q6 (W:World) (E:List Ev) (code:Int) (a:Nat) (e:Ending) (w':World):Prop where
 bel:Below W.heap.size W w'
 ex:∃(n:bQ) (p:Option Addr) (cv:Nat),e=.returned (.tuple #[eF n.k n.d (.slice p n.c.length cv),.int .i64 code,.int .i64 ((if code=0 then 0 else a:Nat):Int)])/\TN (fun j=>W.heap.size<=j) w' n (.slice p n.c.length cv)/\(code=0->gx E []=some n)/\(code≠0->n=.mk 0 aB [])
theorem LQ {n:bQ}(h:gx E []=some n):bo E=(n,0):=by unfold bo;rw [h]
theorem s9 (Q:Lt W ao l) (S:l.length<=4194304) {E:List Ev}{code:Int}{a:Nat}(H:gS (.live [] 0) l E code a) :
  Ta 67 #[.slice ao l.length cap] W (Q6 W E code a):=by
 refine (vP Q S H).mono ?_;rintro e w' ⟨I,n,sv,U,G,ht,J,M⟩;obtain ⟨p,cv,rfl,_⟩:=uZ ht
 by_cases C:code=0
 ·subst C;obtain ⟨c,F,_⟩:=Iq H;have O:=LQ F;obtain ⟨rfl,rfl⟩:=J rfl;rw [O] at G ht;exact ⟨I,_,p,cv,G,ht,fun _=>F,fun h=>absurd rfl h⟩
 ·obtain ⟨rfl,rfl⟩:=M C;rw [Eq C] at G;exact ⟨I,_,p,cv,by rw [Eq C];exact G,ht,fun h=>absurd h C,fun _=>rfl⟩
def uY (e:Ev):Option Tv:=if e.k=2\/e.k=4 then some e.d else none
def QW (e:Ev):Prop:=AC e=e
theorem tF {e:Ev}(C:e.k=1\/e.k=3) (hd:e.d=aB):QW e/\uY e=none:=by
 obtain ⟨k,n,d⟩:=e;simp only at C hd;subst hd;refine ⟨by simp [QW,AC,C],?_⟩;unfold uY;rw [Eq (by simp only;omega)]
theorem mj:∀(o:List Ev),(∀e∈o,uY e=none)->o.filterMap uY=[]
 |[],_=>rfl
 |e :: o,h=>by rw [List.filterMap_cons_none (h e (by simp))];exact mj o (fun x C=>h x (by simp [C]))
theorem oL:∀(l:List Tv) (K:List It) (n:Int) (E:List Ev) (k:Nat),gu (.live K n)->IR K->gS (.live K n) l E 0 k->E.filterMap uY=l/\∀e∈E,QW e
 |[],K,n,E,k,hg,hb,h=>by
  obtain ⟨hc,rfl⟩:=h.end;cases hc with
  |all hh=>
   have:=tF (e:=⟨3,1,aB⟩) (.inr rfl) rfl;exact ⟨mj _ (fun e C=>by simp at C;subst C;exact this.2),fun e C=>by simp at C;subst C;exact this.1⟩
 |t :: l,K,n,E,k,hg,hb,h=>by
  have hn:=ic hg hb;obtain ⟨Q,Y,S⟩:=jj (K:=K) hn;obtain ⟨g1,g2,g3,g4,g5,gbot,gbn,gbe⟩:=cQ hg
  rcases h.inv with ⟨ev,st',J,M,rfl,rfl⟩|⟨ev,st',O,U,J,F,rfl,rfl⟩
  ·exact absurd rfl M
  ·have G:=(dU hg J).1;cases J with
   |note hh=>
    rw [Q,Y] at F G;obtain ⟨H,I⟩:=oL l K n O U G hb F;rw [S];refine ⟨by simp [uY,H],fun e C=>?_⟩;simp at C
    rcases C with rfl|C
    ·rfl
    ·exact I e C
   |yes hh hR hk hm2=>
    rename_i L m2 E1 k1
    obtain ⟨c1,c2,c3,o,c4,c5,c6,c7⟩:=eM hR rfl g1 g2 g3;have Z:=sO hR rfl (by rw [Q];exact hb);obtain ⟨H,I⟩:=oL l L m2 O U G Z F;rw [c4,S];have ho:=mj o (fun e C=>(tF (c6 e C).2.1 (c6 e C).1).2);refine ⟨by simp [uY,H,ho],fun e C=>?_⟩;simp at C
    rcases C with C|rfl|C
    ·exact (tF (c6 e C).2.1 (c6 e C).1).1
    ·rfl
    ·exact I e C
theorem Ir (h:gS (.live [] 0) l E 0 k):E.filterMap uY=l/\E.map AC=E:=by
 have fin:∀E:List Ev,(∀e∈E,QW e)->E.map AC=E:=by
  intro E
  induction E with
  |nil=>intro _;rfl
  |cons e E ih=>intro h;rw [T1,h e (by simp),ih (fun x M=>h x (by simp [M]))]
 by_cases F:l=[]
 ·subst F;obtain ⟨J,rfl⟩:=h.end;cases J with
  |all hh=>simp at hh
 ·obtain ⟨C,H,I⟩:=my h F;obtain ⟨a1,a2⟩:=oL l _ 1 C k pS ji H;have G:=tF (e:=⟨1,1,aB⟩) (.inl rfl) rfl;rw [I rfl];exact ⟨by rw [List.filterMap_cons_none G.2];exact a1,by rw [T1,fin C a2,show AC ⟨1,1,aB⟩=⟨1,1,aB⟩ from G.1]⟩
theorem Iv:∀{l:List Tv}{st:qU}{E:List Ev}{code:Int}{a:Nat},gu st->QQ st->gS st l E code a->code≠0->((code=121↔a=l.length)/\a<=l.length)
 |[],st,E,code,a,hg,hi,h,hc=>by
  obtain ⟨G,rfl⟩:=h.end
  rcases Dx hi G with ⟨C,_⟩|C
  ·exact absurd C hc
  ·exact ⟨⟨fun _=>rfl,fun _=>C⟩,gt _⟩
 |t :: l,st,E,code,a,hg,hi,h,hc=>by
  rcases h.inv with ⟨ev,st',F,I,rfl,rfl⟩|⟨ev,st',J,M,F,H,rfl,rfl⟩
  ·have:code≠121:=by
    rcases hi with rfl|⟨K,n,rfl,_⟩
    ·cases F <;> simp_all
    ·cases F <;> simp_all
   exact ⟨⟨fun h=>absurd h this,fun h=>by simp at h⟩,SW _⟩
  ·obtain ⟨G,C⟩:=JX hg hi F;obtain ⟨h3,h4⟩:=Iv G C H hc;refine ⟨?_,by simp;omega⟩;rw [h3];simp
abbrev qQ (c x y z:Int):Obj:=.cells #[.int .i64 c,.int .i64 x,.int .i64 y,.int .i64 z] 65
abbrev oj (g:Nat):Value:=.iface 63 (.pointer (some ⟨g,0,none⟩))
theorem rO (x y z:Int) (W:World):Ta 14 #[.int .i64 0,.agg #[.int .i64 x,.int .i64 y,.int .i64 z]] W fun r w'=>r=.returned .nilIface/\Below W.heap.size W w':=by
 go_enter Tryz.func14,Tryz.ntmps14
 go_wp2_with fail
 go_ret
 exact ⟨rfl,(hH _ _).alloc (gt _) _⟩
theorem jG (c x y z:Int) (hc:c≠0) (W:World):Ta 14 #[.int .i64 c,.agg #[.int .i64 x,.int .i64 y,.int .i64 z]] W fun r w'=>∃g,r=.returned (oj g)/\w'.heap[g]?=some (qQ c x y z)/\W.heap.size<=g/\Below W.heap.size W w':=by
 have q:(c == 0)=false:=by simpa using hc
 obtain ⟨W1,C⟩:∃W1,W.alloc (.cells #[.int .i64 x,.int .i64 y,.int .i64 z] 47)=W1:=⟨_,rfl⟩;have F:Hid (Tb W W1):=by rw [<-C];exact (hH _ _).alloc (gt _) _
 have c0:W1.cell? ⟨W.heap.size,0,none⟩=some (.int .i64 x):=by rw [<-C];exact af (aq _ _) rfl
 have c1:W1.cell? ⟨W.heap.size,1,none⟩=some (.int .i64 y):=by rw [<-C];exact af (aq _ _) rfl
 have c2:W1.cell? ⟨W.heap.size,2,none⟩=some (.int .i64 z):=by rw [<-C];exact af (aq _ _) rfl
 go_enter Tryz.func14,Tryz.ntmps14
 go_wp2_with fail
 try rw [C]
 clear C
 go_wp2_with fail
 go_ret
 exact ⟨_,rfl,aq _ _,F.out.size,F.out.alloc F.out.size _⟩
theorem Cp {W V:World}{g:Nat}{k0:Int}{d0:Tv}{s0:Value}(h:V.heap[g]?=some (bz k0 d0 s0)) (C:Below W.heap.size W V) (F:W.heap.size<=g) (k:Int) (d:Tv) (s:Value):(aJ V g k d s).heap[g]?=some (bz k d s)/\Below W.heap.size W (aJ V g k d s)/\Kp (fun j=>j=g) V (aJ V g k d s):=
 ⟨gk h k d s,Kp.low C (eJ V g k d s) (fun k e=>by subst e;exact F) C.size,eJ V g k d s⟩
def Sw (W:World) (E:List Ev) (r:Ending) (w':World):Prop:=∃n p cv,r=.returned (.tuple #[eF n.k n.d (.slice p n.c.length cv),.nilIface])/\TN (fun j=>W.heap.size<=j) w' n (.slice p n.c.length cv)/\gx E []=some n/\Below W.heap.size W w'
theorem pY (hl:Lt W ao l) (hn:l.length<=4194304) {E:List Ev}{a:Nat}(ha:gS (.live [] 0) l E 0 a) :
  Ta 33 #[.slice ao l.length cap] W (Sw W E):=by
 obtain ⟨C,J⟩:∃C,W.alloc (bz 0 aB (.slice none 0 0))=C:=⟨_,rfl⟩;have h0:Below W.heap.size W C:=by rw [<-J];exact (hH _ _).alloc (gt _) _
 have hz:C.heap.size=W.heap.size+1:=by rw [<-J];simp
 have Q:C.heap[W.heap.size]?=some (bz 0 aB (.slice none 0 0)):=by rw [<-J];exact aq _ _
 have HP:Hid (Ta 67 #[.slice ao l.length cap] C (Q6 C E 0 a)):=s9 (hl.below h0) hn ha;have M:Hid (Below W.heap.size W C/\C.heap.size=W.heap.size+1/\C.heap[W.heap.size]?=some (bz 0 aB (.slice none 0 0))):=⟨h0,hz,Q⟩;obtain ⟨g,hg⟩:∃g,W.heap.size=g:=⟨_,rfl⟩
 dsimp only [bz,aB] at J
 clear hl hn ha h0 hz Q
 go_enter Tryz.func33,Tryz.ntmps33
 go_wp2_with fail
 try rw [J]
 try rw [hg]
 clear J;refine HP.out.mono ?_;rintro e Z ⟨I,n,p,H,rfl,ht,U,aa⟩;obtain ⟨F,eV4⟩:∃F,Z.alloc (bz n.k n.d (.slice p n.c.length H))=F:=⟨_,rfl⟩;obtain ⟨g4,hg4⟩:∃g4,Z.heap.size=g4:=⟨_,rfl⟩
 have G:Hid (Below C.heap.size C F/\F.heap[g4]?=some (bz n.k n.d (.slice p n.c.length H))/\TN (fun j=>C.heap.size<=j) F n (.slice p n.c.length H)/\F.heap[g]?=some (bz 0 aB (.slice none 0 0))/\gx E []=some n):=by
  have hx:Below Z.heap.size Z F:=by rw [<-eV4];exact (hH _ _).alloc (gt _) _
  have hy:Below C.heap.size C F:=I.trans (hx.mono I.size);exact ⟨hy,by rw [<-eV4,<-hg4];exact aq _ _,TN.kp (Kp.of_below (S:=fun _=>False) hx) (fun _ _ h=>h) n _ ht,ag (by rw [<-hg];exact M.out.2.2) hy,U rfl⟩
 dsimp only [bz] at eV4
 obtain ⟨⟨c0,c1,c2,c3,c4,c5,c6,c7⟩,cl⟩:=aE G.out.2.1;obtain ⟨⟨r0,r1,r2,r3,r4,r5,r6,r7⟩,rl⟩:=aE G.out.2.2.2.1;obtain ⟨f0,f1,f2,f3,f4,f5,f6,f7⟩:=bH G.out.2.2.2.1;clear I ht U aa HP
 go_wp2_with fail
 try rw [eV4]
 try rw [hg4]
 clear eV4 hg4
 go_wp2_with fail
 have Y:=Cp (W:=W) (g:=g) G.out.2.2.2.1 (M.out.1.trans (G.out.1.mono M.out.1.size)) (by omega) n.k n.d (.slice p n.c.length H);obtain ⟨w9,e9⟩:∃w9,aJ F g n.k n.d (.slice p n.c.length H)=w9:=⟨_,rfl⟩;rw [e9] at Y
 dsimp only [aJ] at e9
 rw [e9];obtain ⟨⟨x0,x1,x2,x3,x4,x5,x6,x7⟩,xl⟩:=aE Y.1;refine Ti (v:=.tuple #[eF n.k n.d (.slice p n.c.length H),.nilIface]) (by simp [results,Tryz.f33,go_sem,x0,x1,x2,x3,x4,x5,x6,x7]) rfl ?_;refine ⟨n,p,H,rfl,TN.sub (O:=fun j=>C.heap.size<=j) (fun k _ h=>?_) n _ (TN.kp Y.2.2 (fun k h e=>?_) n _ G.out.2.2.1),G.out.2.2.2.2,Y.2.1⟩
 ·have:=M.out.2.1;show W.heap.size<=k;have h':C.heap.size<=k:=h;omega
 ·have:=M.out.2.1;have h':C.heap.size<=k:=h;have e':k=g:=e;omega
theorem C4 (hl:Lt W ao l) (hn:l.length<=4194304) {E:List Ev}{a:Nat}{code:Int}(ha:gS (.live [] 0) l E code a) (hc:code≠0) {t:Tv}(J:l[a]?=some t) :
  Ta 33 #[.slice ao l.length cap] W fun r w'=>∃g,r=.returned (.tuple #[eF 0 aB (.slice none 0 0),oj g])/\w'.heap[g]?=some (qQ code t.a t.l t.c)/\W.heap.size<=g/\Below W.heap.size W w':=by
 obtain ⟨C,O⟩:∃C,W.alloc (bz 0 aB (.slice none 0 0))=C:=⟨_,rfl⟩;have h0:Below W.heap.size W C:=by rw [<-O];exact (hH _ _).alloc (gt _) _
 have hz:C.heap.size=W.heap.size+1:=by rw [<-O];simp
 have U:C.heap[W.heap.size]?=some (bz 0 aB (.slice none 0 0)):=by rw [<-O];exact aq _ _
 have HP:Hid (Ta 67 #[.slice ao l.length cap] C (Q6 C E code a)):=s9 (hl.below h0) hn ha;have S:Hid (Below W.heap.size W C/\C.heap.size=W.heap.size+1/\C.heap[W.heap.size]?=some (bz 0 aB (.slice none 0 0))/\Lt C ao l):=⟨h0,hz,U,hl.below h0⟩;obtain ⟨g,hg⟩:∃g,W.heap.size=g:=⟨_,rfl⟩;have HF:Hid (∀V,Ta 14 #[.int .i64 code,.agg #[.int .i64 t.a,.int .i64 t.l,.int .i64 t.c]] V fun r w'=>∃g,r=.returned (oj g)/\w'.heap[g]?=some (qQ code t.a t.l t.c)/\V.heap.size<=g/\Below V.heap.size V w'):=fun V=>jG code t.a t.l t.c hc V
 have ac:=(Te.1 J).1;have q1:(a:Int)<l.length:=by omega
 have q0:(0:Int)<=a:=by omega
 have q2:(code == 0)=false:=by simpa using hc
 have Y:((if code=0 then 0 else a:Nat):Int)=a:=by rw [Eq hc]
 have HT:Hid (∀V,Below C.heap.size C V->∃b F,ao=some ⟨b,F,none⟩/\V.cell? ⟨b,F+a*6+2,none⟩=some (.int .i64 t.a)/\V.cell? ⟨b,F+a*6+3,none⟩=some (.int .i64 t.l)/\V.cell? ⟨b,F+a*6+4,none⟩=some (.int .i64 t.c)):=fun V hb=>by
  obtain ⟨b,F,e,_,_,y2,y3,y4,_⟩:=(S.out.2.2.2.below hb) a t J;exact ⟨b,F,e,y2,y3,y4⟩
 dsimp only [bz,aB] at O
 clear hl hn ha h0 hz U J hc
 go_enter Tryz.func33,Tryz.ntmps33
 go_wp2_with fail
 try rw [O]
 try rw [hg]
 clear O;refine HP.out.mono ?_;rintro e w4 ⟨M,n,p,cv,rfl,ht,aa,ab⟩;rw [Y];obtain ⟨G,eV4⟩:∃G,w4.alloc (bz n.k n.d (.slice p n.c.length cv))=G:=⟨_,rfl⟩;obtain ⟨g4,hg4⟩:∃g4,w4.heap.size=g4:=⟨_,rfl⟩
 have Z:Hid (Below C.heap.size C G/\G.heap[g]?=some (bz 0 aB (.slice none 0 0))):=by
  have hx:Below w4.heap.size w4 G:=by rw [<-eV4];exact (hH _ _).alloc (gt _) _
  have hy:Below C.heap.size C G:=M.trans (hx.mono M.size);exact ⟨hy,ag (by rw [<-hg];exact S.out.2.2.1) hy⟩
 dsimp only [bz] at eV4
 obtain ⟨b,F,rfl,y2,y3,y4⟩:=HT.out G Z.out.1;clear M ht aa ab HP Y
 go_wp2_with fail
 try rw [eV4]
 try rw [hg4]
 clear eV4 hg4
 go_wp2_with (go_at_call 14;refine (HF.out _).mono ?_;rintro r w5 ⟨Q,rfl,y5,y6,y7⟩;have H:Hid (w5.heap[Q]?=some (qQ code t.a t.l t.c)/\G.heap.size<=Q/\Below G.heap.size G w5/\w5.heap[g]?=some (bz 0 aB (.slice none 0 0))):=⟨y5,y6,y7,ag Z.out.2 y7⟩;clear y5 y6 y7;obtain ⟨⟨r0,r1,r2,r3,r4,r5,r6,r7⟩,rl⟩:=aE H.out.2.2.2;obtain ⟨f0,f1,f2,f3,f4,f5,f6,f7⟩:=bH H.out.2.2.2)
 have I:Below W.heap.size W G:=S.out.1.trans (Z.out.1.mono S.out.1.size);have h9:=Cp (W:=W) (g:=g) H.out.2.2.2 (I.trans (H.out.2.2.1.mono I.size)) (by omega) 0 aB (.slice none 0 0);obtain ⟨w9,e9⟩:∃w9,aJ w5 g 0 aB (.slice none 0 0)=w9:=⟨_,rfl⟩;rw [e9] at h9
 dsimp only [aJ,aB] at e9
 rw [e9];obtain ⟨⟨x0,x1,x2,x3,x4,x5,x6,x7⟩,xl⟩:=aE h9.1
 dsimp only [aB] at x0 x1 x2 x3 x4 x5 x6 x7
 refine Ti (v:=.tuple #[eF 0 aB (.slice none 0 0),oj Q]) (by simp [results,Tryz.f33,go_sem,x0,x1,x2,x3,x4,x5,x6,x7,aB]) rfl ?_;have h5:=H.out.2.1;have h6:=I.size;have h7:=Z.out.1.size;have h8:=S.out.2.1;refine ⟨Q,rfl,?_,by omega,h9.2.1⟩;have hz:=h9.2.2.block Q (au H.out.1) (fun e=>by have e':Q=g:=e;omega);rw [hz];exact H.out.1
theorem C3 (hl:Lt W ao l) (hn:l.length<=4194304) {E:List Ev}{a:Nat}{code:Int}(ha:gS (.live [] 0) l E code a) (hc:code≠0) (aa:a=l.length) :
  Ta 33 #[.slice ao l.length cap] W fun r w'=>r=.returned (.tuple #[eF 0 aB (.slice none 0 0),.iface 55 (.int .i64 code)])/\Below W.heap.size W w':=by
 obtain ⟨C,H⟩:∃C,W.alloc (bz 0 aB (.slice none 0 0))=C:=⟨_,rfl⟩;have U:Below W.heap.size W C:=by rw [<-H];exact (hH _ _).alloc (gt _) _
 have I:C.heap[W.heap.size]?=some (bz 0 aB (.slice none 0 0)):=by rw [<-H];exact aq _ _
 have HP:Hid (Ta 67 #[.slice ao l.length cap] C (Q6 C E code a)):=s9 (hl.below U) hn ha;have Q:Hid (Below W.heap.size W C/\C.heap[W.heap.size]?=some (bz 0 aB (.slice none 0 0))):=⟨U,I⟩;obtain ⟨g,hg⟩:∃g,W.heap.size=g:=⟨_,rfl⟩;have q1:¬((a:Int)<l.length):=by omega
 have q2:(code == 0)=false:=by simpa using hc
 have J:((if code=0 then 0 else a:Nat):Int)=a:=by rw [Eq hc]
 dsimp only [bz,aB] at H
 clear hl hn ha U I aa hc
 go_enter Tryz.func33,Tryz.ntmps33
 go_wp2_with fail
 try rw [H]
 try rw [hg]
 clear H;refine HP.out.mono ?_;rintro e O ⟨G,n,p,cv,rfl,ht,ab,ac⟩;rw [J];obtain ⟨F,eV4⟩:∃F,O.alloc (bz n.k n.d (.slice p n.c.length cv))=F:=⟨_,rfl⟩;obtain ⟨g4,hg4⟩:∃g4,O.heap.size=g4:=⟨_,rfl⟩
 have M:Hid (Below C.heap.size C F/\F.heap[g]?=some (bz 0 aB (.slice none 0 0))):=by
  have hx:Below O.heap.size O F:=by rw [<-eV4];exact (hH _ _).alloc (gt _) _
  have hy:Below C.heap.size C F:=G.trans (hx.mono G.size);exact ⟨hy,ag (by rw [<-hg];exact Q.out.2) hy⟩
 dsimp only [bz] at eV4
 obtain ⟨⟨r0,r1,r2,r3,r4,r5,r6,r7⟩,rl⟩:=aE M.out.2;obtain ⟨f0,f1,f2,f3,f4,f5,f6,f7⟩:=bH M.out.2;clear G ht ab ac HP J
 go_wp2_with fail
 try rw [eV4]
 try rw [hg4]
 clear eV4 hg4
 go_wp2_with fail
 have Z:Below W.heap.size W F:=Q.out.1.trans (M.out.1.mono Q.out.1.size);have Y:=Cp (W:=W) (g:=g) M.out.2 Z (by omega) 0 aB (.slice none 0 0);obtain ⟨w9,S⟩:∃w9,aJ F g 0 aB (.slice none 0 0)=w9:=⟨_,rfl⟩;rw [S] at Y
 dsimp only [aJ,aB] at S
 rw [S];obtain ⟨⟨x0,x1,x2,x3,x4,x5,x6,x7⟩,xl⟩:=aE Y.1
 dsimp only [aB] at x0 x1 x2 x3 x4 x5 x6 x7
 refine Ti (v:=.tuple #[eF 0 aB (.slice none 0 0),.iface 55 (.int .i64 code)]) (by simp [results,Tryz.f33,go_sem,x0,x1,x2,x3,x4,x5,x6,x7,aB]) rfl ?_;exact ⟨rfl,Y.2.1⟩
end Go.Proofs.YtcjiapphbpiffaaGreatDoor
