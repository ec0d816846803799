import Derived.Test.YtnljjdhodelhdaaGreatDoorM15
import Derived.Test.YtnljjdhodelhdaaGreatDoorM25
set_option linter.unusedVariables false
set_option linter.unusedSimpArgs false
set_option maxHeartbeats 2000000
namespace Go.Proofs.YtnljjdhodelhdaaGreatDoor
open Go.RowKit
variable {l:List Tv}{W:World}{ao:Option Addr}{cap k:Nat}{t:Tv}{E ev:List Ev}{n:Int}
theorem yd:df 19:=enters_of Tryz.func19 (by kernel_rfl) rfl
theorem qT {X:Sx}{W:World}(h:dR X 0 0 [] W) {E:List Ev}{code:Int}{k:Nat}(ha:gm (.live [] 0) X.l E code k) :
  Ra 18 #[pg X.g,.int .u8 1,fv 19 X.g] W fun e w'=>(code=0/\e=.returned (.tuple #[])/\E.length<=1000000000/\∃i,dR X i 0 E w')\/(code≠0/\e=.panicked (stop code k)/\Below X.w0.heap.size X.w0 w'):=by
 refine vg h (by simp) (by omega) 1 yd ?_;intro W1 h1;refine (xH h1).mono ?_;rintro e w' ⟨dz,hb,hp⟩;obtain ⟨t1,t2⟩:=KH ha hb
 rcases hp with ⟨z,hi,rfl,hs⟩|⟨hlt,rfl,hbl⟩
 ·by_cases hc:code=0
  ·obtain ⟨_,_,E0,e1,e2⟩:=t1 hc;have hpp:=(ze (L:=aG X.l) rfl hb z).2;have hpl:dz.p.length=0+1:=by rw [hpp,Ll];rfl
   have hE:E=nR X dz++[⟨3,1,aC⟩]:=by rw [e2];unfold nR;rw [e1];simp
   have hlen:=hs.len (by omega);refine .inl ⟨rfl,ps X.l dz.i,0,nR X dz,by rw [<-hpl];exact hs.sv,by omega,by omega,fun w2 h2=>.inl ⟨hc,rfl,by rw [hE,Or,Tl];omega,_,by rw [hE];exact h2⟩⟩
  ·obtain ⟨a1,a2⟩:=t2 hc
   exfalso
   rcases a1 with a1|⟨_,_,a1⟩
   ·exact hc (a1.symm.trans z)
   ·omega
 ·refine .inr ⟨_,rfl,?_⟩
  by_cases hc:code=0
  ·obtain ⟨b1,b2,_⟩:=t1 hc;exact absurd (hlt b1) (by omega)
  ·obtain ⟨a1,a2⟩:=t2 hc
   have he:(if dz.e=0 then (120:Int) else dz.e)=code:=by
    rcases a1 with a1|⟨a1,a3,_⟩
    ·rw [a1,Eq hc]
    ·rw [IO a3,a1]
   exact .inr ⟨hc,by rw [he,a2],hbl⟩
theorem um {O:Nat->Prop}{n:aQ}{sv:Value}(h:TN O W n sv):∃p cap,sv=.slice p n.c.length cap/\n.c.length<=cap/\cap<=maxLen:=by
 cases n with
 |mk k d c=>
  rw [TN] at h;obtain ⟨vs,h1,_⟩:=h;exact h1.shape
structure Pl (W:World) (E:List Ev) (code:Int) (k:Nat) (e:Ending) (w':World):Prop where
 bel:Below W.heap.size W w'
 ex:∃(n:aQ) (sv:Value) (at':Nat),e=.returned (.tuple #[cL n.k n.d sv,.int .i64 (if code=0 then (bo E).2 else code),.int .i64 (at':Int)])/\TN (fun j=>W.heap.size<=j) w' n sv/\(code=0->at'=0/\n=(bo E).1)/\(code≠0->n=.mk 0 aC []/\at'=k)
theorem kQ {a b c:Nat}{k:Int}{d:Tv}{s:Value}{e i:Int}{w:World}(h:Cz a b c (aY k d s) e i w):(w.cell? ⟨a,0,none⟩=some (.int .u8 k)/\w.cell? ⟨a,1,none⟩=some (.int .u8 d.k)/\w.cell? ⟨a,2,none⟩=some (.string d.t)/\w.cell? ⟨a,3,none⟩=some (.int .i64 d.a)/\w.cell? ⟨a,4,none⟩=some (.int .i64 d.l)/\w.cell? ⟨a,5,none⟩=some (.int .i64 d.c)/\w.cell? ⟨a,6,none⟩=some (.int .i64 d.f)/\w.cell? ⟨a,7,none⟩=some s)/\w.cell? ⟨b,0,none⟩=some (.int .i64 e)/\w.cell? ⟨c,0,none⟩=some (.int .i64 i):=⟨(aB h.ha).1,af h.hb rfl,af h.hc rfl⟩
theorem uP (hl:Lt W ao l) (hn:l.length<=4194304) {E:List Ev}{code:Int}{k:Nat}(ha:gm (.live [] 0) l E code k) (hc:code≠0) :
  Ra 8 #[.slice ao l.length cap] W (Pl W E code k):=by
 have hmf:=mkfn;obtain ⟨W3,e3⟩:∃W3,((W.alloc (aY 0 aC (.slice none 0 0))).alloc (.cells #[.int .i64 0] 28)).alloc (.cells #[.int .i64 0] 3)=W3:=⟨_,rfl⟩;have hz3:W3.heap.size=W.heap.size+1+1+1:=by rw [<-e3];simp [QX]
 have hb3:Below W.heap.size W W3:=by
  rw [<-e3];exact (((hH _ _).alloc (gt _) _).alloc (by simp [QX]) _).alloc (by simp [QX];omega) _
 have c3:Cz W.heap.size (W.heap.size+1) (W.heap.size+1+1) (aY 0 aC (.slice none 0 0)) 0 0 W3:=by
  rw [<-e3];refine ⟨aI (aI (aq _ _) _) _,aI ?_ _,?_,by omega,by omega,by omega⟩
  ·have:=aq (W.alloc (aY 0 aC (.slice none 0 0))) (.cells #[.int .i64 0] 28);rw [QX] at this;exact this
  ·have:=aq ((W.alloc (aY 0 aC (.slice none 0 0))).alloc (.cells #[.int .i64 0] 28)) (.cells #[.int .i64 0] 3);rw [QX,QX] at this;exact this
 have hsv:dR ⟨W3,W3.heap.size,ao,cap,l⟩ 0 0 [] (W3.alloc (.cells #[.slice ao l.length cap,.int .i64 0,.int .i64 0,.slice none 0 0] 62)):=
  ⟨(hH _ _).alloc (gt _) _,hl.below hb3,gt _,hn,.slice none 0 0,aq _ _,xD _,fun k e=>by cases e⟩
 have HN:Hid (Ra 18 #[pg W3.heap.size,.int .u8 1,fv 19 W3.heap.size] (W3.alloc (.cells #[.slice ao l.length cap,.int .i64 0,.int .i64 0,.slice none 0 0] 62)) fun e w'=>e=.panicked (stop code k)/\Below W3.heap.size W3 w'):=(qT (X:=⟨W3,W3.heap.size,ao,cap,l⟩) hsv ha).mono (fun e w' hx=>by
  rcases hx with ⟨h0,_⟩|⟨_,h1,h2⟩
  ·exact absurd h0 hc
  ·exact ⟨h1,h2⟩)
 have HC:Hid (∀w,Below W3.heap.size W3 w->CallsD Tryz.prog 17 #[pg W.heap.size,pg (W.heap.size+1),pg (W.heap.size+1+1)] (.panicking (stop code k)) w fun r u' w'=>r=.returned (.tuple #[])/\u'=.panicking [{ v:=.iface 57 (.agg #[.int .i64 code,.int .i64 (k:Int)]),recovered:=true }]/\Cz W.heap.size (W.heap.size+1) (W.heap.size+1+1) (aY 0 aC (.slice none 0 0)) code k w'/\Below W.heap.size W w'):=fun w hb=>(wG _ _ _ _ _ _ _ _ code k w (c3.below hb)).mono (fun r u' w' ⟨h1,h2,h3,h4⟩=>⟨h1,h2,h3,lK (hb3.trans (hb.mono hb3.size)) h4 (fun j hj=>by omega) (hb3.trans (hb.mono hb3.size)).size⟩)
 have HP:Hid (∀w',Below W.heap.size W w'->Pl W E code k (.returned (.tuple #[cL 0 aC (.slice none 0 0),.int .i64 code,.int .i64 (k:Int)])) w'):=fun w' hb=>⟨hb,.mk 0 aC [],.slice none 0 0,k,by rw [Eq hc];rfl,lm _ _ _ _,fun h=>absurd h hc,fun _=>⟨rfl,rfl⟩⟩
 clear hl ha hc hsv c3 hb3 hn hz3
 dsimp only [aY,aC] at e3
 go_enter_defers Tryz.func8,Tryz.ntmps8
 go_wp2_with fail
 refine HN.out.mono ?_;rintro e w5 ⟨rfl,hb5⟩;have HB5:=ai hb5;clear hb5 e3 HN
 go_wp2_with fail
 refine T3 (f:=17) (args:=#[pg W.heap.size,pg (W.heap.size+1),pg (W.heap.size+1+1)]) (by simp) (by simp [go_sem]) ?_;refine (HC.out _ HB5.out).mono ?_;rintro e u' w6 ⟨rfl,rfl,h6,hb6⟩;obtain ⟨⟨n0,n1,n2,n3,n4,n5,n6,n7⟩,b0,c0⟩:=kQ h6;have hp:=HP.out _ hb6;clear HC HB5 HP h6 hmf
 generalize hv:Ending.returned (.tuple #[cL 0 aC (.slice none 0 0),.int .i64 code,.int .i64 (k:Int)])=rv at hp
 dsimp only [cL,aC] at hv n1 n2 n3 n4 n5 n6
 simp [Leaves,settle,results,Tryz.f8,go_sem,n0,n1,n2,n3,n4,n5,n6,n7,b0,c0,hv];exact hp
theorem sp (hl:Lt W ao l) (hn:l.length<=4194304) {E:List Ev}{k:Nat}(ha:gm (.live [] 0) l E 0 k) :
  Ra 8 #[.slice ao l.length cap] W (Pl W E 0 k):=by
 have hmf:=mkfn;obtain ⟨W3,e3⟩:∃W3,((W.alloc (aY 0 aC (.slice none 0 0))).alloc (.cells #[.int .i64 0] 28)).alloc (.cells #[.int .i64 0] 3)=W3:=⟨_,rfl⟩;have hz3:W3.heap.size=W.heap.size+1+1+1:=by rw [<-e3];simp [QX]
 have hb3:Below W.heap.size W W3:=by
  rw [<-e3];exact (((hH _ _).alloc (gt _) _).alloc (by simp [QX]) _).alloc (by simp [QX];omega) _
 have c3:Cz W.heap.size (W.heap.size+1) (W.heap.size+1+1) (aY 0 aC (.slice none 0 0)) 0 0 W3:=by
  rw [<-e3];refine ⟨aI (aI (aq _ _) _) _,aI ?_ _,?_,by omega,by omega,by omega⟩
  ·have:=aq (W.alloc (aY 0 aC (.slice none 0 0))) (.cells #[.int .i64 0] 28);rw [QX] at this;exact this
  ·have:=aq ((W.alloc (aY 0 aC (.slice none 0 0))).alloc (.cells #[.int .i64 0] 28)) (.cells #[.int .i64 0] 3);rw [QX,QX] at this;exact this
 have hsv:dR ⟨W3,W3.heap.size,ao,cap,l⟩ 0 0 [] (W3.alloc (.cells #[.slice ao l.length cap,.int .i64 0,.int .i64 0,.slice none 0 0] 62)):=
  ⟨(hH _ _).alloc (gt _) _,hl.below hb3,gt _,hn,.slice none 0 0,aq _ _,xD _,fun k e=>by cases e⟩
 have HN:Hid (Ra 18 #[pg W3.heap.size,.int .u8 1,fv 19 W3.heap.size] (W3.alloc (.cells #[.slice ao l.length cap,.int .i64 0,.int .i64 0,.slice none 0 0] 62)) fun e w'=>e=.returned (.tuple #[])/\Below W3.heap.size W3 w'/\∃ao' cap',w'.cell? ⟨W3.heap.size,3,none⟩=some (.slice ao' E.length cap')/\W3.heap.size<w'.heap.size/\Le w' ao' E/\E.length<=cap'/\cap'<=maxLen/\E.length<=1000000000):=(qT (X:=⟨W3,W3.heap.size,ao,cap,l⟩) hsv ha).mono (fun e w' hx=>by
  rcases hx with ⟨_,h1,hlen,i,hs⟩|⟨h0,_⟩
  ·obtain ⟨ve,hb,hre,_⟩:=hs.ex;obtain ⟨ao',cap',rfl,hle,_,h3,h4⟩:=Le.row hre;exact ⟨h1,hs.bel,ao',cap',hb.cells.2.2.2,hb.lt,hle,h3,h4,hlen⟩
  ·exact absurd rfl h0)
 have HBd:Hid (∀w ao' cap',Le w ao' E->E.length<=cap'->cap'<=maxLen->E.length<=1000000000->Ra 20 #[.slice ao' E.length cap'] w fun x w'=>∃sv,x=.returned (.tuple #[cL (bo E).1.k (bo E).1.d sv,.int .i64 (bo E).2])/\TN (fun k=>w.heap.size<=k) w' (bo E).1 sv/\Below w.heap.size w w'):=fun w ao' cap' h1 h2 h3 h4=>CD E w ao' cap' h1 h2 h3 h4
 obtain ⟨n,hn0⟩:∃n,(bo E).1=n:=⟨_,rfl⟩;obtain ⟨bc,hbc⟩:∃bc,(bo E).2=bc:=⟨_,rfl⟩;rw [hn0,hbc] at HBd
 have HC6:Hid (∀w5 w6 sv,Below W3.heap.size W3 w5->Below w5.heap.size w5 w6->TN (fun k=>w5.heap.size<=k) w6 n sv->Cz W.heap.size (W.heap.size+1) (W.heap.size+1+1) (aY 0 aC (.slice none 0 0)) 0 0 w6/\∃w7,(aJ w6 W.heap.size n.k n.d sv).setCell ⟨W.heap.size+1,0,none⟩ (.int .i64 bc)=w7/\Cz W.heap.size (W.heap.size+1) (W.heap.size+1+1) (aY n.k n.d sv) bc 0 w7/\∃w8,(((aJ w7 W.heap.size n.k n.d sv).setCell ⟨W.heap.size+1,0,none⟩ (.int .i64 bc)).setCell ⟨W.heap.size+1+1,0,none⟩ (.int .i64 0)).drew=w8/\Cz W.heap.size (W.heap.size+1) (W.heap.size+1+1) (aY n.k n.d sv) bc 0 w8/\∀w9,Below w8.heap.size w8 w9->Cz W.heap.size (W.heap.size+1) (W.heap.size+1+1) (aY n.k n.d sv) bc 0 w9/\Pl W E 0 k (.returned (.tuple #[cL n.k n.d sv,.int .i64 bc,.int .i64 0])) w9):=fun w5 w6 sv hb5 hb6 ht=>by
  have b6:Below W3.heap.size W3 w6:=hb5.trans (hb6.mono hb5.size);have c6:=c3.below b6;have k1:=eD w6 W.heap.size n.k n.d sv;have k2:=Kp.set (aJ w6 W.heap.size n.k n.d sv) (W.heap.size+1) 0 (.int .i64 bc);have a1:=fW c6.ha n.k n.d sv
  have c7:Cz W.heap.size (W.heap.size+1) (W.heap.size+1+1) (aY n.k n.d sv) bc 0 ((aJ w6 W.heap.size n.k n.d sv).setCell ⟨W.heap.size+1,0,none⟩ (.int .i64 bc)):=
   ⟨k2.blk a1 c6.ab,aj (k1.blk c6.hb (fun x=>c6.ab x.symm)) 0 _,k2.blk (k1.blk c6.hc (fun x=>c6.ac x.symm)) (fun x=>c6.bc x.symm),c6.ab,c6.ac,c6.bc⟩
  obtain ⟨c8,k8⟩:=c7.set n.k n.d sv bc 0;have hdr:∀v:World,Below v.heap.size v v.drew:=fun v=>(hH _ _).drew
  have K:Kp (fun j=>j=W.heap.size\/j=W.heap.size+1\/j=W.heap.size+1+1) w6 ((((aJ ((aJ w6 W.heap.size n.k n.d sv).setCell ⟨W.heap.size+1,0,none⟩ (.int .i64 bc)) W.heap.size n.k n.d sv).setCell ⟨W.heap.size+1,0,none⟩ (.int .i64 bc)).setCell ⟨W.heap.size+1+1,0,none⟩ (.int .i64 0)).drew):=(((k1.sub (fun j hj=>.inl hj)).trans (k2.sub (fun j hj=>.inr (.inl hj)))).trans k8).trans (Kp.of_below (hdr _));refine ⟨c6,_,rfl,c7,_,rfl,c8.below (hdr _),fun w9 hb9=>⟨(c8.below (hdr _)).below hb9,?_⟩⟩;have K9:=K.trans (Kp.of_below hb9);have B6:Below W.heap.size W w6:=hb3.trans (b6.mono hb3.size);refine ⟨lK B6 K9 (fun j hj=>by omega) B6.size,n,sv,0,?_,?_,fun _=>⟨rfl,hn0.symm⟩,fun h=>absurd rfl h⟩
  ·rw [IO rfl,hbc];rfl
  ·have h35:=hb5.size;have t9:=TN.kp K9 (fun j hj=>by omega) n sv ht;exact TN.sub (fun j _ hj=>by omega) n sv t9
 have HI:Hid (∀w,CallsD Tryz.prog 17 #[pg W.heap.size,pg (W.heap.size+1),pg (W.heap.size+1+1)] .returning w fun e u' w'=>e=.returned (.tuple #[])/\u'=.returning/\Below w.heap.size w w'):=fun w=>yn _ _ _ w
 clear hl ha hsv c3 hb3 hn hz3 hn0 hbc
 dsimp only [aY,aC] at e3
 go_enter_defers Tryz.func8,Tryz.ntmps8
 go_wp2_with fail
 refine HN.out.mono ?_;rintro e w5 ⟨rfl,hb5,ao',cap',hcel,hgl,hle,hca,hcb,hlen⟩;have HB5:=ai hb5;have HL:=ai hle;clear hb5 e3 HN hle
 go_wp2_with fail
 refine (HBd.out w5 ao' cap' HL.out hca hcb hlen).mono ?_;rintro e w6 ⟨sv,rfl,ht,hb6⟩;obtain ⟨pv,cv,rfl,_⟩:=um ht;obtain ⟨c6,w7,e7,c7,w8,e8,c8,H9⟩:=HC6.out w5 w6 _ HB5.out hb6 ht;have HQ:=ai H9;obtain ⟨⟨⟨n0,n1,n2,n3,n4,n5,n6,n7⟩,b0,c0⟩,f0,f1,f2,f3,f4,f5,f6,f7⟩:=And.intro (kQ c6) (bG c6.ha);have fb:w6.frozen? ⟨W.heap.size+1,0,none⟩=false:=am c6.hb;have la:=au c6.ha;have lb:=au c6.hb;have hab:=c6.ab;have hac:=c6.ac;have hbc:=c6.bc;have hba:=c6.ab.symm;have hca2:=c6.ac.symm;have hcb2:=c6.bc.symm;have C7:=ai c7;have C8:=ai c8;have E8:=ai e8;clear c6 c7 c8 e8 H9 ht hb6 HC6 HBd hcel hgl HL HB5 hca hcb hlen
 generalize W.heap.size+1+1=c at *
 generalize W.heap.size+1=b at *
 generalize hgen:W.heap.size=a at *
 unfold aJ at e7
 dsimp only [cL,aC] at n1 n2 n3 n4 n5 n6 ⊢
 go_wp2_with fail
 clear n0 n1 n2 n3 n4 n5 n6 n7 b0 c0 f0 f1 f2 f3 f4 f5 f6 f7 fb la lb;obtain ⟨⟨⟨n0,n1,n2,n3,n4,n5,n6,n7⟩,b0,c0⟩,f0,f1,f2,f3,f4,f5,f6,f7⟩:=And.intro (kQ C7.out) (bG C7.out.ha);have fb:w7.frozen? ⟨b,0,none⟩=false:=am C7.out.hb;have fc:w7.frozen? ⟨c,0,none⟩=false:=am C7.out.hc;have la:=au C7.out.ha;have lb:=au C7.out.hb;have lc:=au C7.out.hc
 go_region
 all_goals (
  have e8:=E8.out;unfold aJ at e8
  try rw [e8]
  clear e8 n0 n1 n2 n3 n4 n5 n6 n7 b0 c0 f0 f1 f2 f3 f4 f5 f6 f7 fb fc la lb lc
  go_wp2_with fail
  refine T3 (f:=17) (args:=#[pg a,pg b,pg c]) (by simp) (by simp [go_sem]) ?_;refine (HI.out _).mono ?_;rintro e u' w9 ⟨rfl,rfl,hb9⟩;obtain ⟨c9,hp⟩:=HQ.out w9 hb9;obtain ⟨⟨n0,n1,n2,n3,n4,n5,n6,n7⟩,b0,c0⟩:=kQ c9;clear HQ HI C7 C8 E8 c9 hb9 hmf
  generalize hv:Ending.returned (.tuple #[cL n.k n.d (.slice pv n.c.length cv),.int .i64 bc,.int .i64 0])=rv at hp
  dsimp only [cL] at hv
  simp [Leaves,settle,results,Tryz.f8,go_sem,n0,n1,n2,n3,n4,n5,n6,n7,b0,c0,hv];exact hp)
theorem uQ (hl:Lt W ao l) (hn:l.length<=4194304) {E:List Ev}{code:Int}{k:Nat}(ha:gm (.live [] 0) l E code k) :
  Ra 8 #[.slice ao l.length cap] W (Pl W E code k):=by
 by_cases hc:code=0
 ·subst hc;exact sp hl hn ha
 ·exact uP hl hn ha hc
def IC (t:Tv):Nat->List It->Int->List Ev->Option (Nat × Ro)
 |0,_,_,_=>none
 |f+1,[],n,E=>some (0,.no)
 |f+1,i :: K,n,E=>match It.step t i with
  |.ref=>some (0,.no)
  |.tk=>some (0,.yes K n E)
  |.go d o r=>match IC t f (r++K) (n+d) (E++o) with
   |some (k,R)=>some (k+1,R)
   |none=>none
theorem DR :∀(f:Nat) (K:List It) (n:Int) (E:List Ev) (k:Nat) (R:Ro),IC t f K n E=some (k,R)->Ru t k K n E R
 |0,_,_,_,_,_,h=>by cases h
 |f+1,[],n,E,k,R,h=>by cases h;exact .nil
 |f+1,i :: K,n,E,k,R,h=>by
  simp only [IC] at h;cases hs:It.step t i with
  |ref=>rw [hs] at h;cases h;exact .ref hs
  |tk=>rw [hs] at h;cases h;exact .tk hs
  |go d o r=>
   rw [hs] at h;simp only at h;cases hr:IC t f (r++K) (n+d) (E++o) with
   |none=>rw [hr] at h;cases h
   |some x=>
    obtain ⟨k',R'⟩:=x;rw [hr] at h;cases h;exact .go hs (DR f _ _ _ _ _ hr)
def IT (t:Tv):lZ->Option (List Ev × Int × lZ)
 |.live K n=>if (t.k == 7 || t.k == 8) then none else match IC t 20 (beg K n) (gk n) (bN n) with
  |some (k,.yes L m E)=>if m<=1000 then some (E++[⟨2,0,t⟩],0,.live L m) else none
  |some (k,.no)=>some ([],120,.stuck 120 n)
  |none=>none
 |_=>none
theorem DQ :∀(f:Nat) (K:List It) (n:Int) (E:List Ev) (k:Nat) (R:Ro),IC t f K n E=some (k,R)->k+1<=f
 |0,_,_,_,_,_,h=>by cases h
 |f+1,[],n,E,k,R,h=>by cases h;omega
 |f+1,i :: K,n,E,k,R,h=>by
  simp only [IC] at h;cases hs:It.step t i with
  |ref=>rw [hs] at h;cases h;omega
  |tk=>rw [hs] at h;cases h;omega
  |go d o r=>
   rw [hs] at h;simp only at h;cases hr:IC t f (r++K) (n+d) (E++o) with
   |none=>rw [hr] at h;cases h
   |some x=>
    obtain ⟨k',R'⟩:=x;rw [hr] at h;cases h;have:=DQ f _ _ _ _ _ hr;omega
theorem IS {st:lZ}{x:List Ev × Int × lZ}(h:IT t st=some x):jG t st x.1 x.2.1 x.2.2:=by
 cases st with
 |live K n=>
  simp only [IT] at h
  split at h
  ·cases h
  ·rename_i hc
   have hc':(t.k == 7 || t.k == 8)=false:=by simpa using hc
   cases hr:IC t 20 (beg K n) (gk n) (bN n) with
   |none=>rw [hr] at h;cases h
   |some y=>
    obtain ⟨k,R⟩:=y;have h1:=DR _ _ _ _ _ _ hr;have h2:=DQ _ _ _ _ _ _ hr;rw [hr] at h;cases R with
    |no=>cases h;exact .no hc' h1 (by omega)
    |yes L m E=>
     simp only at h
     split at h
     ·cases h;exact .yes hc' h1 (by omega) (by assumption)
     ·cases h
 |stuck e n=>cases h
 |shut=>cases h
def yy:List Tv->lZ->Option (List Ev × Int × Nat)
 |[],.live K n=>if K.length=1 then some ([⟨3,1,aC⟩],0,0) else some ([],121,0)
 |[],_=>none
 |t :: l,st=>match IT t st with
  |some (ev,c,st')=>if c=0 then (match yy l st' with|some (E,c',k)=>some (ev++E,c',k+1)|none=>none) else some ([],c,0)
  |none=>none
theorem AE:∀(l:List Tv) (st:lZ) (E:List Ev) (c:Int) (k:Nat),yy l st=some (E,c,k)->gm st l E c k
 |[],st,E,c,k,h=>by
  cases st with
  |live K n=>
   simp only [yy] at h
   split at h
   ·rename_i h1;cases h;exact .nil (.all h1)
   ·rename_i h1;cases h;exact .nil (.open h1)
  |stuck e n=>cases h
  |shut=>cases h
 |t :: l,st,E,c,k,h=>by
  simp only [yy] at h;cases hp:IT t st with
  |none=>rw [hp] at h;cases h
  |some x=>
   obtain ⟨ev,c1,st'⟩:=x;have h1:=IS hp;rw [hp] at h;simp only at h h1
   split at h
   ·rename_i hc
    subst hc;cases hr:yy l st' with
    |none=>rw [hr] at h;cases h
    |some y=>
     obtain ⟨E2,c2,k2⟩:=y;rw [hr] at h;cases h;exact .on h1 (AE l st' _ _ _ hr)
   ·rename_i hc
    cases h;exact .err h1 hc
theorem BF {s s':List Int}{a b:List Ev}(h:cF s (a++b)=some s'):∃s1,cF s a=some s1:=by
 induction a generalizing s with
 |nil=>exact ⟨s,rfl⟩
 |cons e a ih=>
  simp only [cF,RA] at h ⊢
  split
  ·rename_i h1;rw [IO h1] at h;exact ih h
  ·grind
mutual
def PJ:aQ->Prop
 |.mk k d c=>if k=0 then c=[] else c≠[]/\d=aC/\qg c
def qg:List aQ->Prop
 |[]=>True
 |n :: r=>PJ n/\qg r
end
theorem pD:∀(a b:List aQ),qg a->qg b->qg (a++b)
 |[],b,_,h=>h
 |n :: r,b,h,h'=>by
  simp only [RA,qg] at h ⊢;exact ⟨h.1,pD r b h.2 h'⟩
def FS (S:List (Int × List aQ)):Prop:=∀x∈S,qg x.2/\x.1≠0
def rE (S:List (Int × List aQ)):Prop:=∃k c S',S=(k,c) :: S'/\c≠[]
theorem qa:∀(c:List Ev) (S:List (Int × List aQ)) (s':List Int),(∀e∈c,e.k=3)->cF (S.map (·.1)) c=some s'->s'≠[]->FS S->(c≠[]->rE S)->∃S',S'.map (·.1)=s'/\FS S'/\(c≠[]->rE S')/\(c=[]->S'=S)/\∀rest,et (c++rest) S=et rest S'
 |[],S,s',_,h,_,hF,hT=>by cases h;exact ⟨S,rfl,hF,(fun h=>absurd rfl h),fun _=>rfl,fun rest=>rfl⟩
 |e :: c,S,s',hc,h,hs,hF,hT=>by
  have h3:=hc e (QY ..);have h1:¬e.k=1:=by omega
  obtain ⟨k,kids,S1,rfl,hne⟩:=hT (by simp);simp only [Sc,cF,Eq h1,IO h3] at h
  split at h
  ·rename_i hk
   obtain ⟨k',c',S2,rfl⟩:∃k' c' S2,S1=(k',c') :: S2:=by
    cases S1 with
    |nil=>
     exfalso
     cases c with
     |nil=>simp [cF] at h;exact hs h
     |cons e2 c2=>
      have h3':=hc e2 (by simp);have h1':¬e2.k=1:=by omega
      simp [cF,h1',h3'] at h
    |cons x S2=>exact ⟨x.1,x.2,S2,rfl⟩
   have hk0:k≠0:=(hF (k,kids) (by simp)).2;have hful:PJ (.mk k aC kids):=by rw [PJ,Eq hk0];exact ⟨hne,rfl,(hF (k,kids) (by simp)).1⟩
   have hF2:FS ((k',c'++[.mk k aC kids]) :: S2):=by
    intro x hx
    rcases Rz.1 hx with rfl|hx
    ·have:=hF (k',c') (by simp);exact ⟨pD _ _ this.1 (by simp [qg,hful]),this.2⟩
    ·exact hF x (by simp [hx])
   have hT2:rE ((k',c'++[.mk k aC kids]) :: S2):=⟨k',_,S2,rfl,by simp⟩;obtain ⟨S',a1,a2,a3,a4,a5⟩:=qa c ((k',c'++[.mk k aC kids]) :: S2) s' (fun x hx=>hc x (QZ _ hx)) (by simpa using h) hs hF2 (fun _=>hT2);refine ⟨S',a1,a2,fun _=>?_,(fun h=>by cases h),fun rest=>?_⟩
   ·by_cases hcn:c=[]
    ·rw [a4 hcn];exact hT2
    ·exact a3 hcn
   ·rw [RA,<-a5 rest];simp only [et,Eq h1,IO h3,IO hk]
  ·cases h
theorem rB:∀(o:List Ev) (S:List (Int × List aQ)) (s':List Int),(∀e∈o,e.k=1/\e.n≠0)->cF (S.map (·.1)) o=some s'->s'.length<=1000->FS S->∃S',S'.map (·.1)=s'/\FS S'/\S.length<=S'.length/\(∀rest,et (o++rest) S=et rest S')
 |[],S,s',_,h,_,hF=>by cases h;exact ⟨S,rfl,hF,gt _,fun rest=>rfl⟩
 |e :: o,S,s',hc,h,hs,hF=>by
  obtain ⟨h1,hn⟩:=hc e (QY ..);simp only [cF,IO h1] at h
  have hF2:FS ((e.n,[]) :: S):=by
   intro x hx
   rcases Rz.1 hx with rfl|hx
   ·exact ⟨trivial,hn⟩
   ·exact hF x hx
  obtain ⟨S',a1,a2,a3,a4⟩:=rB o ((e.n,[]) :: S) s' (fun x hx=>hc x (QZ _ hx)) h hs hF2;have hl:S'.length<=1000:=by have:=Rj List.length a1;rw [Ua] at this;omega
  simp only [List.length_cons] at a3;refine ⟨S',a1,a2,by omega,fun rest=>?_⟩;rw [RA,<-a4 rest];simp only [et,IO h1];rw [Eq (by intro hh;rcases hh with hh|hh;exact hn hh;omega)]
theorem Az {t:Tv}{S:List (Int × List aQ)}(hS:S≠[]) (hF:FS S):∃S',S'.map (·.1)=S.map (·.1)/\FS S'/\rE S'/\∀rest,et ((if cm t then ⟨4,0,t⟩ else ⟨2,0,t⟩) :: rest) S=et rest S':=by
 cases S with
 |nil=>exact absurd rfl hS
 |cons x S1=>
  obtain ⟨k,c⟩:=x;refine ⟨(k,c++[.mk 0 t []]) :: S1,rfl,?_,⟨k,_,S1,rfl,by simp⟩,fun rest=>?_⟩
  ·intro x hx
   rcases Rz.1 hx with rfl|hx
   ·have:=hF (k,c) (by simp);exact ⟨pD _ _ this.1 (by simp [qg,PJ]),this.2⟩
   ·exact hF x (by simp [hx])
  ·cases hc:cm t <;> simp [et,hc]
theorem On {K:List It}{R:Ro}(h:Ru t k K n E R):∀{L:List It}{m:Int}{F:List Ev},R=.yes L m F->∀e∈F,e∈E\/(e.k=1->e.n≠0):=by
 induction h with
 |nil=>intro L m F h;cases h
 |ref _=>intro L m F h;cases h
 |tk hs=>intro L m F h e he;cases h;exact .inl he
 |go hs hr ih=>
  rename_i k i K n d E o r R
  intro L m F h e he
  rcases ih h e he with h1|h1
  ·rcases Rm.1 h1 with h2|h2
   ·exact .inl h2
   ·refine .inr (fun hk=>?_);cases i with
    |fl x=>
     cases x with
     |mt mm=>
      have hro:=gX t mm;simp only [It.step,Fl.step] at hs;cases hrow:M.row t mm with
      |ref=>rw [hrow] at hs;cases hs
      |ex r'=>rw [hrow] at hs;cases hs;cases h2
      |op nd r'=>
       rw [hrow] at hs hro;cases hs;simp at h2;subst h2;have:=hro.2.2.2.1;show nd≠0;omega
     |_=>simp only [It.step,Fl.step] at hs;split at hs <;> cases hs
    |lv nn=>cases hs;simp at h2;subst h2;cases hk
    |once p=>cases hs;cases h2
    |again p=>cases hs;cases h2
    |all r'=>cases hs;cases h2
  ·exact .inr h1
structure Tj (K:List It) (S:List (Int × List aQ)):Prop where
 pa:S.map (·.1)=bM K
 fs:FS S
 tn:rE S\/K=cd++[.lv 1]
theorem BA {m:Int}{F:List Ev}{L:List It}(h:Ru t k (cd++[.lv 1]) n E (.yes L m F)):F=E:=by
 cases h with
 |tk _=>rfl
 |go hs _=>
  simp only [It.step,Fl.step] at hs
  split at hs <;> cases hs
theorem El:∀(o:List Ev) (s s':List Int),(∀e∈o,e.k=1/\e.n≠1)->cF s o=some s'->s'.getLast?=some 1->s≠[]
 |[],s,s',_,h,hl=>by cases h;intro e;subst e;cases hl
 |e :: o,s,s',ho,h,hl=>by
  obtain ⟨h1,h2⟩:=ho e (by simp);simp only [cF,IO h1] at h;intro es;subst es
  have key:∀(o:List Ev) (s s':List Int) (x:Int),(∀e∈o,e.k=1)->cF s o=some s'->s.getLast?=some x->s'.getLast?=some x:=by
   intro o
   induction o with
   |nil=>intro s s' x _ h hx;cases h;exact hx
   |cons e2 o ih=>
    intro s s' x ho h hx;simp only [cF,IO (ho e2 (by simp))] at h;refine ih (e2.n :: s) s' x (fun y hy=>ho y (by simp [hy])) h ?_;cases s with
    |nil=>cases hx
    |cons y s=>simpa using hx
  have:=key o [e.n] s' e.n (fun y hy=>(ho y (by simp [hy])).1) h rfl;rw [this] at hl;exact h2 (by simpa using hl)
theorem lk:∀(l:List Tv) (K:List It) (n:Int) (S:List (Int × List aQ)) (E:List Ev) (k:Nat),gi (.live K n)->G9 K->Tj K S->gm (.live K n) l E 0 k->∃c,et E S=some (.mk 1 aC c)/\c≠[]/\qg c
 |[],K,n,S,E,k,hg,hb,hj,h=>by
  obtain ⟨hc,rfl⟩:=h.end;cases hc with
  |all hh=>
   have hK:K=[.lv 1]:=by
    rcases hb with hb|⟨X,hX⟩
    ·exact hb
    ·rw [hX] at hh;simp at hh
   subst hK;have hp:=hj.pa
   rcases hj.tn with ⟨k0,c,S',rfl,hne⟩|ht
   ·simp [bM] at hp;obtain ⟨rfl,rfl⟩:=hp;refine ⟨c,?_,hne,(hj.fs (1,c) (by simp)).1⟩;simp [et]
   ·cases ht
 |t :: l,K,n,S,E,k,hg,hb,hj,h=>by
  have hn:=gP hg hb;obtain ⟨b1,b2,b3⟩:=iY (K:=K) hn;obtain ⟨g1,g2,g3,g4,g5,gbot,gbn,gbe⟩:=cI hg
  have hSne:S≠[]:=by
   intro e;have:=hj.pa;rw [e] at this
   have h2:1<=(bM K).length:=by
    rcases hb with rfl|⟨X,rfl⟩
    ·decide
    ·rw [bP];simp [bM]
   rw [<-this] at h2;simp at h2
  rcases h.inv with ⟨ev,st',hp,hcd,rfl,rfl⟩|⟨ev,st',E2,k2,hp,hR2,rfl,rfl⟩
  ·exact absurd rfl hcd
  ·have hgs:=(dL hg hp).1;cases hp with
   |note hh=>
    rw [b1,b2] at hR2 hgs;obtain ⟨S',a1,a2,a3,a4⟩:=Az (t:=t) hSne hj.fs;have hcm:cm t=true:=hh;rw [hcm] at a4;obtain ⟨c,c1,c2,c3⟩:=lk l K n S' E2 k2 hgs hb ⟨a1.trans hj.pa,a2,.inl a3⟩ hR2;refine ⟨c,?_,c2,c3⟩;rw [b3,RG,List.singleton_append,<-c1];exact a4 E2
   |yes hh hR hk hm2=>
    rename_i L m2 E1 k1
    obtain ⟨c1,c2,c3,o,c4,c5,c6,c7⟩:=eF hR rfl g1 g2 g3;obtain ⟨cc,oo,d1,d2,d3⟩:=DM hR rfl g1;have hnz:=On hR rfl;have hL:=r9 hR rfl (by rw [b1];exact hb);rw [b3,RG] at c4 d1;obtain rfl:o=cc++oo:=c4.symm.trans d1;rw [b1] at c5 hR;rw [b3] at hR hnz;obtain ⟨s1,p1⟩:=BF c5;have p2:cF s1 oo=some (bM L):=by rw [<-c5,dM _ _ _ _ p1]
    have hlast:(bM L).getLast?=some 1:=by
     rcases hL with rfl|⟨X,rfl⟩
     ·rfl
     ·rw [bP];simp [bM]
    have hs1:=El oo s1 _ (fun e he=>⟨d3 e he,(c6 e (Sf _ he)).2.2 (d3 e he)⟩) p2 hlast
    have htop:cc≠[]->rE S:=by
     intro hcc
     rcases hj.tn with ht|ht
     ·exact ht
     ·subst ht;have:=BA hR;rw [c4] at this;simp at this;exact absurd this.1 hcc
    obtain ⟨S1,e1,e2,e3,e4,e5⟩:=qa cc S s1 d2 (by rw [hj.pa];exact p1) hs1 hj.fs htop
    obtain ⟨S2,f1,f2,f3,f4⟩:=rB oo S1 (bM L) (fun e he=>⟨d3 e he,by
     rcases hnz e (by rw [c4];exact Sf _ he) with h1|h1
     ·cases h1
     ·exact h1 (d3 e he)⟩) (by rw [e1];exact p2) (by omega) e2
    have hS2:S2≠[]:=by
     intro e;rw [e] at f1;have f1':bM L=[]:=f1.symm;rw [f1'] at hlast;cases hlast
    obtain ⟨S3,a1,a2,a3,a4⟩:=Az (t:=t) hS2 f2;have hcm:cm t=false:=hh;rw [hcm] at a4;obtain ⟨c,x1,x2,x3⟩:=lk l L m2 S3 E2 k2 hgs hL ⟨a1.trans f1,a2,.inl a3⟩ hR2;refine ⟨c,?_,x2,x3⟩;rw [c4,QW,QW,e5,f4,<-x1];exact a4 E2
theorem GO (h:gm (.live [] 0) l E 0 k):∃c,et E []=some (.mk 1 aC c)/\c≠[]/\qg c:=by
 by_cases hl:l=[]
 ·subst hl;obtain ⟨hc,rfl⟩:=h.end;cases hc with
  |all hh=>simp at hh
 ·obtain ⟨E1,h1,h2⟩:=lX h hl;obtain ⟨c,c1,c2,c3⟩:=lk l _ 1 [(1,[])] E1 k pu iX ⟨rfl,(fun x hx=>by simp at hx;subst hx;exact ⟨trivial,by decide⟩),.inr rfl⟩ h1;refine ⟨c,?_,c2,c3⟩;rw [h2 rfl,<-c1];simp [et]
def Pq (st:lZ):Prop:=st=.live [] 0\/∃K n,st=.live K n/\G9 K/\n≠0
theorem IM {st st':lZ}(hg:gi st) (hi:Pq st) (hp:jG t st ev 0 st'):gi st'/\Pq st':=by
 have hg':=(dL hg hp).1;refine ⟨hg',?_⟩
 have hb:∀K n,st=.live K n->G9 (beg K n):=by
  intro K n e
  rcases hi with hi|⟨K',n',hi,hb,hn⟩
  ·rw [hi] at e;cases e;exact iX
  ·rw [hi] at e;cases e;rw [(iY hn).1];exact hb
 cases hp with
 |stuck=>rcases hi with hi|⟨_,_,hi,_⟩ <;> cases hi
 |note hh=>
  have hb2:=hb _ _ rfl;exact .inr ⟨_,_,rfl,hb2,gP hg' hb2⟩
 |yes hh hR hk hm=>
  have hb2:=r9 hR rfl (hb _ _ rfl);exact .inr ⟨_,_,rfl,hb2,gP hg' hb2⟩
theorem JJ:Pq (.live [] 0):=.inl rfl
theorem Cv {st:lZ}{c:Int}(hi:Pq st) (h:wR st ev c):(c=0/\∃n,st=.live [.lv 1] n/\n≠0)\/c=121:=by
 rcases hi with rfl|⟨K,n,rfl,hb,hn⟩
 ·cases h with
  |all hh=>simp at hh
  | «open» hh=>exact .inr rfl
 ·cases h with
  |all hh=>
   refine .inl ⟨rfl,n,?_,hn⟩
   rcases hb with rfl|⟨X,rfl⟩
   ·rfl
   ·simp at hh
  | «open» hh=>exact .inr rfl
structure PH (W:World) (E:List Ev) (code:Int) (a:Nat) (e:Ending) (w':World):Prop where
 bel:Below W.heap.size W w'
 ex:∃(n:aQ) (p:Option Addr) (cv:Nat),e=.returned (.tuple #[cL n.k n.d (.slice p n.c.length cv),.int .i64 code,.int .i64 ((if code=0 then 0 else a:Nat):Int)])/\TN (fun j=>W.heap.size<=j) w' n (.slice p n.c.length cv)/\(code=0->et E []=some n)/\(code≠0->n=.mk 0 aC [])
theorem Kv {n:aQ}(h:et E []=some n):bo E=(n,0):=by unfold bo;rw [h]
theorem np (hl:Lt W ao l) (hn:l.length<=4194304) {E:List Ev}{code:Int}{a:Nat}(ha:gm (.live [] 0) l E code a) :
  Ra 8 #[.slice ao l.length cap] W (PH W E code a):=by
 refine (uQ hl hn ha).mono ?_;rintro e w' ⟨hb,n,sv,at',he,ht,h1,h2⟩;obtain ⟨p,cv,rfl,_⟩:=um ht
 by_cases hc:code=0
 ·subst hc;obtain ⟨c,hbl,_⟩:=GO ha;have h3:=Kv hbl;obtain ⟨rfl,rfl⟩:=h1 rfl;rw [h3] at he ht;exact ⟨hb,_,p,cv,he,ht,fun _=>hbl,fun h=>absurd rfl h⟩
 ·obtain ⟨rfl,rfl⟩:=h2 hc;rw [Eq hc] at he;exact ⟨hb,_,p,cv,by rw [Eq hc];exact he,ht,fun h=>absurd h hc,fun _=>rfl⟩
def uk (e:Ev):Option Tv:=if e.k=2\/e.k=4 then some e.d else none
def Px (e:Ev):Prop:=zB e=e
theorem sH {e:Ev}(hk:e.k=1\/e.k=3) (hd:e.d=aC):Px e/\uk e=none:=by
 obtain ⟨k,n,d⟩:=e;simp only at hk hd;subst hd;refine ⟨by simp [Px,zB,hk],?_⟩;unfold uk;rw [Eq (by simp only;omega)]
theorem lR:∀(o:List Ev),(∀e∈o,uk e=none)->o.filterMap uk=[]
 |[],_=>rfl
 |e :: o,h=>by rw [List.filterMap_cons_none (h e (by simp))];exact lR o (fun x hx=>h x (by simp [hx]))
theorem ou:∀(l:List Tv) (K:List It) (n:Int) (E:List Ev) (k:Nat),gi (.live K n)->G9 K->gm (.live K n) l E 0 k->E.filterMap uk=l/\∀e∈E,Px e
 |[],K,n,E,k,hg,hb,h=>by
  obtain ⟨hc,rfl⟩:=h.end;cases hc with
  |all hh=>
   have:=sH (e:=⟨3,1,aC⟩) (.inr rfl) rfl;exact ⟨lR _ (fun e he=>by simp at he;subst he;exact this.2),fun e he=>by simp at he;subst he;exact this.1⟩
 |t :: l,K,n,E,k,hg,hb,h=>by
  have hn:=gP hg hb;obtain ⟨b1,b2,b3⟩:=iY (K:=K) hn;obtain ⟨g1,g2,g3,g4,g5,gbot,gbn,gbe⟩:=cI hg
  rcases h.inv with ⟨ev,st',hp,hcd,rfl,rfl⟩|⟨ev,st',E2,k2,hp,hR2,rfl,rfl⟩
  ·exact absurd rfl hcd
  ·have hgs:=(dL hg hp).1;cases hp with
   |note hh=>
    rw [b1,b2] at hR2 hgs;obtain ⟨a1,a2⟩:=ou l K n E2 k2 hgs hb hR2;rw [b3];refine ⟨by simp [uk,a1],fun e he=>?_⟩;simp at he
    rcases he with rfl|he
    ·rfl
    ·exact a2 e he
   |yes hh hR hk hm2=>
    rename_i L m2 E1 k1
    obtain ⟨c1,c2,c3,o,c4,c5,c6,c7⟩:=eF hR rfl g1 g2 g3;have hL:=r9 hR rfl (by rw [b1];exact hb);obtain ⟨a1,a2⟩:=ou l L m2 E2 k2 hgs hL hR2;rw [c4,b3];have ho:=lR o (fun e he=>(sH (c6 e he).2.1 (c6 e he).1).2);refine ⟨by simp [uk,a1,ho],fun e he=>?_⟩;simp at he
    rcases he with he|rfl|he
    ·exact (sH (c6 e he).2.1 (c6 e he).1).1
    ·rfl
    ·exact a2 e he
theorem GQ (h:gm (.live [] 0) l E 0 k):E.filterMap uk=l/\E.map zB=E:=by
 have fin:∀E:List Ev,(∀e∈E,Px e)->E.map zB=E:=by
  intro E
  induction E with
  |nil=>intro _;rfl
  |cons e E ih=>intro h;rw [Sc,h e (by simp),ih (fun x hx=>h x (by simp [hx]))]
 by_cases hl:l=[]
 ·subst hl;obtain ⟨hc,rfl⟩:=h.end;cases hc with
  |all hh=>simp at hh
 ·obtain ⟨E1,h1,h2⟩:=lX h hl;obtain ⟨a1,a2⟩:=ou l _ 1 E1 k pu iX h1;have hm:=sH (e:=⟨1,1,aC⟩) (.inl rfl) rfl;rw [h2 rfl];exact ⟨by rw [List.filterMap_cons_none hm.2];exact a1,by rw [Sc,fin E1 a2,show zB ⟨1,1,aC⟩=⟨1,1,aC⟩ from hm.1]⟩
theorem GT:∀{l:List Tv}{st:lZ}{E:List Ev}{code:Int}{a:Nat},gi st->Pq st->gm st l E code a->code≠0->((code=121↔a=l.length)/\a<=l.length)
 |[],st,E,code,a,hg,hi,h,hc=>by
  obtain ⟨h1,rfl⟩:=h.end
  rcases Cv hi h1 with ⟨h2,_⟩|h2
  ·exact absurd h2 hc
  ·exact ⟨⟨fun _=>rfl,fun _=>h2⟩,gt _⟩
 |t :: l,st,E,code,a,hg,hi,h,hc=>by
  rcases h.inv with ⟨ev,st',hp,hcd,rfl,rfl⟩|⟨ev,st',E2,k2,hp,hR2,rfl,rfl⟩
  ·have:code≠121:=by
    rcases hi with rfl|⟨K,n,rfl,_⟩
    ·cases hp <;> simp_all
    ·cases hp <;> simp_all
   exact ⟨⟨fun h=>absurd h this,fun h=>by simp at h⟩,QU _⟩
  ·obtain ⟨h1,h2⟩:=IM hg hi hp;obtain ⟨h3,h4⟩:=GT h1 h2 hR2 hc;refine ⟨?_,by simp;omega⟩;rw [h3];simp
abbrev qx (c x y z:Int):Obj:=.cells #[.int .i64 c,.int .i64 x,.int .i64 y,.int .i64 z] 71
abbrev nO (g:Nat):Value:=.iface 69 (.pointer (some ⟨g,0,none⟩))
theorem rk (x y z:Int) (W:World):Ra 10 #[.int .i64 0,.agg #[.int .i64 x,.int .i64 y,.int .i64 z]] W fun r w'=>r=.returned .nilIface/\Below W.heap.size W w':=by
 go_enter Tryz.func10,Tryz.ntmps10
 go_wp2_with fail
 go_ret
 exact ⟨rfl,(hH _ _).alloc (gt _) _⟩
theorem jv (c x y z:Int) (hc:c≠0) (W:World):Ra 10 #[.int .i64 c,.agg #[.int .i64 x,.int .i64 y,.int .i64 z]] W fun r w'=>∃g,r=.returned (nO g)/\w'.heap[g]?=some (qx c x y z)/\W.heap.size<=g/\Below W.heap.size W w':=by
 have q:(c == 0)=false:=by simpa using hc
 obtain ⟨W1,e1⟩:∃W1,W.alloc (.cells #[.int .i64 x,.int .i64 y,.int .i64 z] 30)=W1:=⟨_,rfl⟩;have HB:Hid (Rc W W1):=by rw [<-e1];exact (hH _ _).alloc (gt _) _
 have c0:W1.cell? ⟨W.heap.size,0,none⟩=some (.int .i64 x):=by rw [<-e1];exact af (aq _ _) rfl
 have c1:W1.cell? ⟨W.heap.size,1,none⟩=some (.int .i64 y):=by rw [<-e1];exact af (aq _ _) rfl
 have c2:W1.cell? ⟨W.heap.size,2,none⟩=some (.int .i64 z):=by rw [<-e1];exact af (aq _ _) rfl
 go_enter Tryz.func10,Tryz.ntmps10
 go_wp2_with fail
 try rw [e1]
 clear e1
 go_wp2_with fail
 go_ret
 exact ⟨_,rfl,aq _ _,HB.out.size,HB.out.alloc HB.out.size _⟩
theorem Bv {W V:World}{g:Nat}{k0:Int}{d0:Tv}{s0:Value}(h:V.heap[g]?=some (aY k0 d0 s0)) (hb:Below W.heap.size W V) (hg:W.heap.size<=g) (k:Int) (d:Tv) (s:Value):(aJ V g k d s).heap[g]?=some (aY k d s)/\Below W.heap.size W (aJ V g k d s)/\Kp (fun j=>j=g) V (aJ V g k d s):=
 ⟨fW h k d s,Kp.low hb (eD V g k d s) (fun k e=>by subst e;exact hg) hb.size,eD V g k d s⟩
def QH (W:World) (E:List Ev) (r:Ending) (w':World):Prop:=∃n p cv,r=.returned (.tuple #[cL n.k n.d (.slice p n.c.length cv),.nilIface])/\TN (fun j=>W.heap.size<=j) w' n (.slice p n.c.length cv)/\et E []=some n/\Below W.heap.size W w'
theorem pE (hl:Lt W ao l) (hn:l.length<=4194304) {E:List Ev}{a:Nat}(ha:gm (.live [] 0) l E 0 a) :
  Ra 53 #[.slice ao l.length cap] W (QH W E):=by
 obtain ⟨W0,e0⟩:∃W0,W.alloc (aY 0 aC (.slice none 0 0))=W0:=⟨_,rfl⟩;have h0:Below W.heap.size W W0:=by rw [<-e0];exact (hH _ _).alloc (gt _) _
 have hz:W0.heap.size=W.heap.size+1:=by rw [<-e0];simp
 have hb0:W0.heap[W.heap.size]?=some (aY 0 aC (.slice none 0 0)):=by rw [<-e0];exact aq _ _
 have HP:Hid (Ra 8 #[.slice ao l.length cap] W0 (PH W0 E 0 a)):=np (hl.below h0) hn ha;have H0:Hid (Below W.heap.size W W0/\W0.heap.size=W.heap.size+1/\W0.heap[W.heap.size]?=some (aY 0 aC (.slice none 0 0))):=⟨h0,hz,hb0⟩;obtain ⟨g,hg⟩:∃g,W.heap.size=g:=⟨_,rfl⟩
 dsimp only [aY,aC] at e0
 clear hl hn ha h0 hz hb0
 go_enter Tryz.func53,Tryz.ntmps53
 go_wp2_with fail
 try rw [e0]
 try rw [hg]
 clear e0;refine HP.out.mono ?_;rintro e w4 ⟨hb4,n,p,cv,rfl,ht,hn0,hn1⟩;obtain ⟨V4,eV4⟩:∃V4,w4.alloc (aY n.k n.d (.slice p n.c.length cv))=V4:=⟨_,rfl⟩;obtain ⟨g4,hg4⟩:∃g4,w4.heap.size=g4:=⟨_,rfl⟩
 have H4:Hid (Below W0.heap.size W0 V4/\V4.heap[g4]?=some (aY n.k n.d (.slice p n.c.length cv))/\TN (fun j=>W0.heap.size<=j) V4 n (.slice p n.c.length cv)/\V4.heap[g]?=some (aY 0 aC (.slice none 0 0))/\et E []=some n):=by
  have hx:Below w4.heap.size w4 V4:=by rw [<-eV4];exact (hH _ _).alloc (gt _) _
  have hy:Below W0.heap.size W0 V4:=hb4.trans (hx.mono hb4.size);exact ⟨hy,by rw [<-eV4,<-hg4];exact aq _ _,TN.kp (Kp.of_below (S:=fun _=>False) hx) (fun _ _ h=>h) n _ ht,ag (by rw [<-hg];exact H0.out.2.2) hy,hn0 rfl⟩
 dsimp only [aY] at eV4
 obtain ⟨⟨c0,c1,c2,c3,c4,c5,c6,c7⟩,cl⟩:=aB H4.out.2.1;obtain ⟨⟨r0,r1,r2,r3,r4,r5,r6,r7⟩,rl⟩:=aB H4.out.2.2.2.1;obtain ⟨f0,f1,f2,f3,f4,f5,f6,f7⟩:=bG H4.out.2.2.2.1;clear hb4 ht hn0 hn1 HP
 go_wp2_with fail
 try rw [eV4]
 try rw [hg4]
 clear eV4 hg4
 go_wp2_with fail
 have h9:=Bv (W:=W) (g:=g) H4.out.2.2.2.1 (H0.out.1.trans (H4.out.1.mono H0.out.1.size)) (by omega) n.k n.d (.slice p n.c.length cv);obtain ⟨w9,e9⟩:∃w9,aJ V4 g n.k n.d (.slice p n.c.length cv)=w9:=⟨_,rfl⟩;rw [e9] at h9
 dsimp only [aJ] at e9
 rw [e9];obtain ⟨⟨x0,x1,x2,x3,x4,x5,x6,x7⟩,xl⟩:=aB h9.1;refine Rg (v:=.tuple #[cL n.k n.d (.slice p n.c.length cv),.nilIface]) (by simp [results,Tryz.f53,go_sem,x0,x1,x2,x3,x4,x5,x6,x7]) rfl ?_;refine ⟨n,p,cv,rfl,TN.sub (O:=fun j=>W0.heap.size<=j) (fun k _ h=>?_) n _ (TN.kp h9.2.2 (fun k h e=>?_) n _ H4.out.2.2.1),H4.out.2.2.2.2,h9.2.1⟩
 ·have:=H0.out.2.1;show W.heap.size<=k;have h':W0.heap.size<=k:=h;omega
 ·have:=H0.out.2.1;have h':W0.heap.size<=k:=h;have e':k=g:=e;omega
theorem B3 (hl:Lt W ao l) (hn:l.length<=4194304) {E:List Ev}{a:Nat}{code:Int}(ha:gm (.live [] 0) l E code a) (hc:code≠0) {t:Tv}(hat:l[a]?=some t) :
  Ra 53 #[.slice ao l.length cap] W fun r w'=>∃g,r=.returned (.tuple #[cL 0 aC (.slice none 0 0),nO g])/\w'.heap[g]?=some (qx code t.a t.l t.c)/\W.heap.size<=g/\Below W.heap.size W w':=by
 obtain ⟨W0,e0⟩:∃W0,W.alloc (aY 0 aC (.slice none 0 0))=W0:=⟨_,rfl⟩;have h0:Below W.heap.size W W0:=by rw [<-e0];exact (hH _ _).alloc (gt _) _
 have hz:W0.heap.size=W.heap.size+1:=by rw [<-e0];simp
 have hb0:W0.heap[W.heap.size]?=some (aY 0 aC (.slice none 0 0)):=by rw [<-e0];exact aq _ _
 have HP:Hid (Ra 8 #[.slice ao l.length cap] W0 (PH W0 E code a)):=np (hl.below h0) hn ha;have H0:Hid (Below W.heap.size W W0/\W0.heap.size=W.heap.size+1/\W0.heap[W.heap.size]?=some (aY 0 aC (.slice none 0 0))/\Lt W0 ao l):=⟨h0,hz,hb0,hl.below h0⟩;obtain ⟨g,hg⟩:∃g,W.heap.size=g:=⟨_,rfl⟩;have HF:Hid (∀V,Ra 10 #[.int .i64 code,.agg #[.int .i64 t.a,.int .i64 t.l,.int .i64 t.c]] V fun r w'=>∃g,r=.returned (nO g)/\w'.heap[g]?=some (qx code t.a t.l t.c)/\V.heap.size<=g/\Below V.heap.size V w'):=fun V=>jv code t.a t.l t.c hc V
 have hlt:=(Q7.1 hat).1;have q1:(a:Int)<l.length:=by omega
 have q0:(0:Int)<=a:=by omega
 have q2:(code == 0)=false:=by simpa using hc
 have hif:((if code=0 then 0 else a:Nat):Int)=a:=by rw [Eq hc]
 have HT:Hid (∀V,Below W0.heap.size W0 V->∃b off,ao=some ⟨b,off,none⟩/\V.cell? ⟨b,off+a*6+2,none⟩=some (.int .i64 t.a)/\V.cell? ⟨b,off+a*6+3,none⟩=some (.int .i64 t.l)/\V.cell? ⟨b,off+a*6+4,none⟩=some (.int .i64 t.c)):=fun V hb=>by
  obtain ⟨b,off,e,_,_,y2,y3,y4,_⟩:=(H0.out.2.2.2.below hb) a t hat;exact ⟨b,off,e,y2,y3,y4⟩
 dsimp only [aY,aC] at e0
 clear hl hn ha h0 hz hb0 hat hc
 go_enter Tryz.func53,Tryz.ntmps53
 go_wp2_with fail
 try rw [e0]
 try rw [hg]
 clear e0;refine HP.out.mono ?_;rintro e w4 ⟨hb4,n,p,cv,rfl,ht,hn0,hn1⟩;rw [hif];obtain ⟨V4,eV4⟩:∃V4,w4.alloc (aY n.k n.d (.slice p n.c.length cv))=V4:=⟨_,rfl⟩;obtain ⟨g4,hg4⟩:∃g4,w4.heap.size=g4:=⟨_,rfl⟩
 have H4:Hid (Below W0.heap.size W0 V4/\V4.heap[g]?=some (aY 0 aC (.slice none 0 0))):=by
  have hx:Below w4.heap.size w4 V4:=by rw [<-eV4];exact (hH _ _).alloc (gt _) _
  have hy:Below W0.heap.size W0 V4:=hb4.trans (hx.mono hb4.size);exact ⟨hy,ag (by rw [<-hg];exact H0.out.2.2.1) hy⟩
 dsimp only [aY] at eV4
 obtain ⟨b,off,rfl,y2,y3,y4⟩:=HT.out V4 H4.out.1;clear hb4 ht hn0 hn1 HP hif
 go_wp2_with fail
 try rw [eV4]
 try rw [hg4]
 clear eV4 hg4
 go_wp2_with (go_at_call 10;refine (HF.out _).mono ?_;rintro r w5 ⟨g5,rfl,y5,y6,y7⟩;have H5:Hid (w5.heap[g5]?=some (qx code t.a t.l t.c)/\V4.heap.size<=g5/\Below V4.heap.size V4 w5/\w5.heap[g]?=some (aY 0 aC (.slice none 0 0))):=⟨y5,y6,y7,ag H4.out.2 y7⟩;clear y5 y6 y7;obtain ⟨⟨r0,r1,r2,r3,r4,r5,r6,r7⟩,rl⟩:=aB H5.out.2.2.2;obtain ⟨f0,f1,f2,f3,f4,f5,f6,f7⟩:=bG H5.out.2.2.2)
 have hW4:Below W.heap.size W V4:=H0.out.1.trans (H4.out.1.mono H0.out.1.size);have h9:=Bv (W:=W) (g:=g) H5.out.2.2.2 (hW4.trans (H5.out.2.2.1.mono hW4.size)) (by omega) 0 aC (.slice none 0 0);obtain ⟨w9,e9⟩:∃w9,aJ w5 g 0 aC (.slice none 0 0)=w9:=⟨_,rfl⟩;rw [e9] at h9
 dsimp only [aJ,aC] at e9
 rw [e9];obtain ⟨⟨x0,x1,x2,x3,x4,x5,x6,x7⟩,xl⟩:=aB h9.1
 dsimp only [aC] at x0 x1 x2 x3 x4 x5 x6 x7
 refine Rg (v:=.tuple #[cL 0 aC (.slice none 0 0),nO g5]) (by simp [results,Tryz.f53,go_sem,x0,x1,x2,x3,x4,x5,x6,x7,aC]) rfl ?_;have h5:=H5.out.2.1;have h6:=hW4.size;have h7:=H4.out.1.size;have h8:=H0.out.2.1;refine ⟨g5,rfl,?_,by omega,h9.2.1⟩;have hz:=h9.2.2.block g5 (au H5.out.1) (fun e=>by have e':g5=g:=e;omega);rw [hz];exact H5.out.1
theorem B2 (hl:Lt W ao l) (hn:l.length<=4194304) {E:List Ev}{a:Nat}{code:Int}(ha:gm (.live [] 0) l E code a) (hc:code≠0) (hat:a=l.length) :
  Ra 53 #[.slice ao l.length cap] W fun r w'=>r=.returned (.tuple #[cL 0 aC (.slice none 0 0),.iface 28 (.int .i64 code)])/\Below W.heap.size W w':=by
 obtain ⟨W0,e0⟩:∃W0,W.alloc (aY 0 aC (.slice none 0 0))=W0:=⟨_,rfl⟩;have h0:Below W.heap.size W W0:=by rw [<-e0];exact (hH _ _).alloc (gt _) _
 have hb0:W0.heap[W.heap.size]?=some (aY 0 aC (.slice none 0 0)):=by rw [<-e0];exact aq _ _
 have HP:Hid (Ra 8 #[.slice ao l.length cap] W0 (PH W0 E code a)):=np (hl.below h0) hn ha;have H0:Hid (Below W.heap.size W W0/\W0.heap[W.heap.size]?=some (aY 0 aC (.slice none 0 0))):=⟨h0,hb0⟩;obtain ⟨g,hg⟩:∃g,W.heap.size=g:=⟨_,rfl⟩;have q1:¬((a:Int)<l.length):=by omega
 have q2:(code == 0)=false:=by simpa using hc
 have hif:((if code=0 then 0 else a:Nat):Int)=a:=by rw [Eq hc]
 dsimp only [aY,aC] at e0
 clear hl hn ha h0 hb0 hat hc
 go_enter Tryz.func53,Tryz.ntmps53
 go_wp2_with fail
 try rw [e0]
 try rw [hg]
 clear e0;refine HP.out.mono ?_;rintro e w4 ⟨hb4,n,p,cv,rfl,ht,hn0,hn1⟩;rw [hif];obtain ⟨V4,eV4⟩:∃V4,w4.alloc (aY n.k n.d (.slice p n.c.length cv))=V4:=⟨_,rfl⟩;obtain ⟨g4,hg4⟩:∃g4,w4.heap.size=g4:=⟨_,rfl⟩
 have H4:Hid (Below W0.heap.size W0 V4/\V4.heap[g]?=some (aY 0 aC (.slice none 0 0))):=by
  have hx:Below w4.heap.size w4 V4:=by rw [<-eV4];exact (hH _ _).alloc (gt _) _
  have hy:Below W0.heap.size W0 V4:=hb4.trans (hx.mono hb4.size);exact ⟨hy,ag (by rw [<-hg];exact H0.out.2) hy⟩
 dsimp only [aY] at eV4
 obtain ⟨⟨r0,r1,r2,r3,r4,r5,r6,r7⟩,rl⟩:=aB H4.out.2;obtain ⟨f0,f1,f2,f3,f4,f5,f6,f7⟩:=bG H4.out.2;clear hb4 ht hn0 hn1 HP hif
 go_wp2_with fail
 try rw [eV4]
 try rw [hg4]
 clear eV4 hg4
 go_wp2_with fail
 have hW4:Below W.heap.size W V4:=H0.out.1.trans (H4.out.1.mono H0.out.1.size);have h9:=Bv (W:=W) (g:=g) H4.out.2 hW4 (by omega) 0 aC (.slice none 0 0);obtain ⟨w9,e9⟩:∃w9,aJ V4 g 0 aC (.slice none 0 0)=w9:=⟨_,rfl⟩;rw [e9] at h9
 dsimp only [aJ,aC] at e9
 rw [e9];obtain ⟨⟨x0,x1,x2,x3,x4,x5,x6,x7⟩,xl⟩:=aB h9.1
 dsimp only [aC] at x0 x1 x2 x3 x4 x5 x6 x7
 refine Rg (v:=.tuple #[cL 0 aC (.slice none 0 0),.iface 28 (.int .i64 code)]) (by simp [results,Tryz.f53,go_sem,x0,x1,x2,x3,x4,x5,x6,x7,aC]) rfl ?_;exact ⟨rfl,h9.2.1⟩
end Go.Proofs.YtnljjdhodelhdaaGreatDoor
