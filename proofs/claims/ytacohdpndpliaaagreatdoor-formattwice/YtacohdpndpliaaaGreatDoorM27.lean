import Derived.Test.YtacohdpndpliaaaGreatDoorM16
import Derived.Test.YtacohdpndpliaaaGreatDoorM26
set_option linter.all false
set_option maxHeartbeats 2000000
namespace Go.Proofs.YtacohdpndpliaaaGreatDoor
open Go.Proofs.Tryz
open Go.RowKit
variable {l:List Tv}{W:World}{ao:Option Addr}{cap k:Nat}{t:Tv}{E ev:List Ev}{n:Int}
theorem xX:dh 41:=enters_of func41 (by kernel_rfl) rfl
theorem qZ {X:Sx}{W:World}(h:dP X 0 0 [] W) {E:List Ev}{code:Int}{k:Nat}(ha:gi (.live [] 0) X.l E code k) :
  Qu 40 #[pg X.g,.int .u8 1,fv 41 X.g] W fun e w'=>(code=0/\e=.returned (.tuple #[])/\E.length<=1000000000/\∃i,dP X i 0 E w')\/(code≠0/\e=.panicked (stop code k)/\Below X.w0.heap.size X.w0 w'):=by
 refine va h (by simp) (by omega) 1 xX ?_;intro W1 h1;refine (xA h1).mono ?_;rintro e w' ⟨dz,hb,hp⟩;obtain ⟨t1,t2⟩:=Kl ha hb
 rcases hp with ⟨z,hi,rfl,hs⟩|⟨hlt,rfl,hbl⟩
 ·by_cases hc:code=0
  ·obtain ⟨_,_,E0,e1,e2⟩:=t1 hc;have hpp:=(yS (L:=aF X.l) rfl hb z).2;have hpl:dz.p.length=0+1:=by rw [hpp,KV];rfl
   have hE:E=nY X dz++[⟨3,1,aB⟩]:=by rw [e2];unfold nY;rw [e1];simp
   have hlen:=hs.len (by omega);refine .inl ⟨rfl,ps X.l dz.i,0,nY X dz,by rw [<-hpl];exact hs.sv,by omega,by omega,fun w2 h2=>.inl ⟨hc,rfl,by rw [hE,Or,Sz];omega,_,by rw [hE];exact h2⟩⟩
  ·obtain ⟨a1,a2⟩:=t2 hc
   exfalso
   rcases a1 with a1|⟨_,_,a1⟩
   ·exact hc (a1.symm.trans z)
   ·omega
 ·refine .inr ⟨_,rfl,?_⟩
  by_cases hc:code=0
  ·obtain ⟨b1,b2,_⟩:=t1 hc;exact absurd (hlt b1) (by omega)
  ·obtain ⟨a1,a2⟩:=t2 hc
   have he:(if dz.e=0 then (120:Int) else dz.e)=code:=by
    rcases a1 with a1|⟨a1,a3,_⟩
    ·rw [a1,Eq hc]
    ·rw [IO a3,a1]
   exact .inr ⟨hc,by rw [he,a2],hbl⟩
theorem un {O:Nat->Prop}{n:bO}{sv:Value}(h:TN O W n sv):∃p cap,sv=.slice p n.c.length cap/\n.c.length<=cap/\cap<=maxLen:=by
 cases n with
 |mk k d c=>
  rw [TN] at h;obtain ⟨vs,h1,_⟩:=h;exact h1.shape
structure OS (W:World) (E:List Ev) (code:Int) (k:Nat) (e:Ending) (w':World):Prop where
 bel:Below W.heap.size W w'
 ex:∃(n:bO) (sv:Value) (at':Nat),e=.returned (.tuple #[ef n.k n.d sv,.int .i64 (if code=0 then (bo E).2 else code),.int .i64 (at':Int)])/\TN (fun j=>W.heap.size<=j) w' n sv/\(code=0->at'=0/\n=(bo E).1)/\(code≠0->n=.mk 0 aB []/\at'=k)
theorem kT {a b c:Nat}{k:Int}{d:Tv}{s:Value}{e i:Int}{w:World}(h:Cz a b c (bv k d s) e i w):(w.cell? ⟨a,0,none⟩=some (.int .u8 k)/\w.cell? ⟨a,1,none⟩=some (.int .u8 d.k)/\w.cell? ⟨a,2,none⟩=some (.string d.t)/\w.cell? ⟨a,3,none⟩=some (.int .i64 d.a)/\w.cell? ⟨a,4,none⟩=some (.int .i64 d.l)/\w.cell? ⟨a,5,none⟩=some (.int .i64 d.c)/\w.cell? ⟨a,6,none⟩=some (.int .i64 d.f)/\w.cell? ⟨a,7,none⟩=some s)/\w.cell? ⟨b,0,none⟩=some (.int .i64 e)/\w.cell? ⟨c,0,none⟩=some (.int .i64 i):=⟨(aD h.ha).1,af h.hb rfl,af h.hc rfl⟩
theorem uO (hl:Lt W ao l) (hn:l.length<=4194304) {E:List Ev}{code:Int}{k:Nat}(ha:gi (.live [] 0) l E code k) (hc:code≠0) :
  Qu 19 #[.slice ao l.length cap] W (OS W E code k):=by
 have hmf:=mkfn;obtain ⟨W3,e3⟩:∃W3,((W.alloc (bv 0 aB (.slice none 0 0))).alloc (.cells #[.int .i64 0] 24)).alloc (.cells #[.int .i64 0] 3)=W3:=⟨_,rfl⟩;have hz3:W3.heap.size=W.heap.size+1+1+1:=by rw [<-e3];simp [Qy]
 have hb3:Below W.heap.size W W3:=by
  rw [<-e3];exact (((hH _ _).alloc (gt _) _).alloc (by simp [Qy]) _).alloc (by simp [Qy];omega) _
 have c3:Cz W.heap.size (W.heap.size+1) (W.heap.size+1+1) (bv 0 aB (.slice none 0 0)) 0 0 W3:=by
  rw [<-e3];refine ⟨aI (aI (au _ _) _) _,aI ?_ _,?_,by omega,by omega,by omega⟩
  ·have:=au (W.alloc (bv 0 aB (.slice none 0 0))) (.cells #[.int .i64 0] 24);rw [Qy] at this;exact this
  ·have:=au ((W.alloc (bv 0 aB (.slice none 0 0))).alloc (.cells #[.int .i64 0] 24)) (.cells #[.int .i64 0] 3);rw [Qy,Qy] at this;exact this
 have hsv:dP ⟨W3,W3.heap.size,ao,cap,l⟩ 0 0 [] (W3.alloc (.cells #[.slice ao l.length cap,.int .i64 0,.int .i64 0,.slice none 0 0] 96)):=
  ⟨(hH _ _).alloc (gt _) _,hl.below hb3,gt _,hn,.slice none 0 0,au _ _,xw _,fun k e=>by cases e⟩
 have HN:Hid (Qu 40 #[pg W3.heap.size,.int .u8 1,fv 41 W3.heap.size] (W3.alloc (.cells #[.slice ao l.length cap,.int .i64 0,.int .i64 0,.slice none 0 0] 96)) fun e w'=>e=.panicked (stop code k)/\Below W3.heap.size W3 w'):=(qZ (X:=⟨W3,W3.heap.size,ao,cap,l⟩) hsv ha).mono (fun e w' hx=>by
  rcases hx with ⟨h0,_⟩|⟨_,h1,h2⟩
  ·exact absurd h0 hc
  ·exact ⟨h1,h2⟩)
 have HC:Hid (∀w,Below W3.heap.size W3 w->CallsD Tryz.prog 39 #[pg W.heap.size,pg (W.heap.size+1),pg (W.heap.size+1+1)] (.panicking (stop code k)) w fun r u' w'=>r=.returned (.tuple #[])/\u'=.panicking [{ v:=.iface 92 (.agg #[.int .i64 code,.int .i64 (k:Int)]),recovered:=true }]/\Cz W.heap.size (W.heap.size+1) (W.heap.size+1+1) (bv 0 aB (.slice none 0 0)) code k w'/\Below W.heap.size W w'):=fun w hb=>(wC _ _ _ _ _ _ _ _ code k w (c3.below hb)).mono (fun r u' w' ⟨h1,h2,h3,h4⟩=>⟨h1,h2,h3,lQ (hb3.trans (hb.mono hb3.size)) h4 (fun j hj=>by omega) (hb3.trans (hb.mono hb3.size)).size⟩)
 have HP:Hid (∀w',Below W.heap.size W w'->OS W E code k (.returned (.tuple #[ef 0 aB (.slice none 0 0),.int .i64 code,.int .i64 (k:Int)])) w'):=fun w' hb=>⟨hb,.mk 0 aB [],.slice none 0 0,k,by rw [Eq hc];rfl,lu _ _ _ _,fun h=>absurd h hc,fun _=>⟨rfl,rfl⟩⟩
 clear hl ha hc hsv c3 hb3 hn hz3
 dsimp only [bv,aB] at e3
 go_enter_defers func19,ntmps19
 go_wp2_with fail
 refine HN.out.mono ?_;rintro e w5 ⟨rfl,hb5⟩;have HB5:=ai hb5;clear hb5 e3 HN
 go_wp2_with fail
 refine Tt (f:=39) (args:=#[pg W.heap.size,pg (W.heap.size+1),pg (W.heap.size+1+1)]) (by simp) (by simp [go_sem]) ?_;refine (HC.out _ HB5.out).mono ?_;rintro e u' w6 ⟨rfl,rfl,h6,hb6⟩;obtain ⟨⟨n0,n1,n2,n3,n4,n5,n6,n7⟩,b0,c0⟩:=kT h6;have hp:=HP.out _ hb6;clear HC HB5 HP h6 hmf
 generalize hv:Ending.returned (.tuple #[ef 0 aB (.slice none 0 0),.int .i64 code,.int .i64 (k:Int)])=rv at hp
 dsimp only [ef,aB] at hv n1 n2 n3 n4 n5 n6
 simp [Leaves,settle,results,Tryz.f19,go_sem,n0,n1,n2,n3,n4,n5,n6,n7,b0,c0,hv];exact hp
theorem sw (hl:Lt W ao l) (hn:l.length<=4194304) {E:List Ev}{k:Nat}(ha:gi (.live [] 0) l E 0 k) :
  Qu 19 #[.slice ao l.length cap] W (OS W E 0 k):=by
 have hmf:=mkfn;obtain ⟨W3,e3⟩:∃W3,((W.alloc (bv 0 aB (.slice none 0 0))).alloc (.cells #[.int .i64 0] 24)).alloc (.cells #[.int .i64 0] 3)=W3:=⟨_,rfl⟩;have hz3:W3.heap.size=W.heap.size+1+1+1:=by rw [<-e3];simp [Qy]
 have hb3:Below W.heap.size W W3:=by
  rw [<-e3];exact (((hH _ _).alloc (gt _) _).alloc (by simp [Qy]) _).alloc (by simp [Qy];omega) _
 have c3:Cz W.heap.size (W.heap.size+1) (W.heap.size+1+1) (bv 0 aB (.slice none 0 0)) 0 0 W3:=by
  rw [<-e3];refine ⟨aI (aI (au _ _) _) _,aI ?_ _,?_,by omega,by omega,by omega⟩
  ·have:=au (W.alloc (bv 0 aB (.slice none 0 0))) (.cells #[.int .i64 0] 24);rw [Qy] at this;exact this
  ·have:=au ((W.alloc (bv 0 aB (.slice none 0 0))).alloc (.cells #[.int .i64 0] 24)) (.cells #[.int .i64 0] 3);rw [Qy,Qy] at this;exact this
 have hsv:dP ⟨W3,W3.heap.size,ao,cap,l⟩ 0 0 [] (W3.alloc (.cells #[.slice ao l.length cap,.int .i64 0,.int .i64 0,.slice none 0 0] 96)):=
  ⟨(hH _ _).alloc (gt _) _,hl.below hb3,gt _,hn,.slice none 0 0,au _ _,xw _,fun k e=>by cases e⟩
 have HN:Hid (Qu 40 #[pg W3.heap.size,.int .u8 1,fv 41 W3.heap.size] (W3.alloc (.cells #[.slice ao l.length cap,.int .i64 0,.int .i64 0,.slice none 0 0] 96)) fun e w'=>e=.returned (.tuple #[])/\Below W3.heap.size W3 w'/\∃ao' cap',w'.cell? ⟨W3.heap.size,3,none⟩=some (.slice ao' E.length cap')/\W3.heap.size<w'.heap.size/\Le w' ao' E/\E.length<=cap'/\cap'<=maxLen/\E.length<=1000000000):=(qZ (X:=⟨W3,W3.heap.size,ao,cap,l⟩) hsv ha).mono (fun e w' hx=>by
  rcases hx with ⟨_,h1,hlen,i,hs⟩|⟨h0,_⟩
  ·obtain ⟨ve,hb,hre,_⟩:=hs.ex;obtain ⟨ao',cap',rfl,hle,_,h3,h4⟩:=Le.row hre;exact ⟨h1,hs.bel,ao',cap',hb.cells.2.2.2,hb.lt,hle,h3,h4,hlen⟩
  ·exact absurd rfl h0)
 have HBd:Hid (∀w ao' cap',Le w ao' E->E.length<=cap'->cap'<=maxLen->E.length<=1000000000->Qu 42 #[.slice ao' E.length cap'] w fun x w'=>∃sv,x=.returned (.tuple #[ef (bo E).1.k (bo E).1.d sv,.int .i64 (bo E).2])/\TN (fun k=>w.heap.size<=k) w' (bo E).1 sv/\Below w.heap.size w w'):=fun w ao' cap' h1 h2 h3 h4=>Cs E w ao' cap' h1 h2 h3 h4
 obtain ⟨n,hn0⟩:∃n,(bo E).1=n:=⟨_,rfl⟩;obtain ⟨bc,hbc⟩:∃bc,(bo E).2=bc:=⟨_,rfl⟩;rw [hn0,hbc] at HBd
 have HC6:Hid (∀w5 w6 sv,Below W3.heap.size W3 w5->Below w5.heap.size w5 w6->TN (fun k=>w5.heap.size<=k) w6 n sv->Cz W.heap.size (W.heap.size+1) (W.heap.size+1+1) (bv 0 aB (.slice none 0 0)) 0 0 w6/\∃w7,(aH w6 W.heap.size n.k n.d sv).setCell ⟨W.heap.size+1,0,none⟩ (.int .i64 bc)=w7/\Cz W.heap.size (W.heap.size+1) (W.heap.size+1+1) (bv n.k n.d sv) bc 0 w7/\∃w8,(((aH w7 W.heap.size n.k n.d sv).setCell ⟨W.heap.size+1,0,none⟩ (.int .i64 bc)).setCell ⟨W.heap.size+1+1,0,none⟩ (.int .i64 0)).drew=w8/\Cz W.heap.size (W.heap.size+1) (W.heap.size+1+1) (bv n.k n.d sv) bc 0 w8/\∀w9,Below w8.heap.size w8 w9->Cz W.heap.size (W.heap.size+1) (W.heap.size+1+1) (bv n.k n.d sv) bc 0 w9/\OS W E 0 k (.returned (.tuple #[ef n.k n.d sv,.int .i64 bc,.int .i64 0])) w9):=fun w5 w6 sv hb5 hb6 ht=>by
  have b6:Below W3.heap.size W3 w6:=hb5.trans (hb6.mono hb5.size);have c6:=c3.below b6;have k1:=eu w6 W.heap.size n.k n.d sv;have k2:=Kp.set (aH w6 W.heap.size n.k n.d sv) (W.heap.size+1) 0 (.int .i64 bc);have a1:=fS c6.ha n.k n.d sv
  have c7:Cz W.heap.size (W.heap.size+1) (W.heap.size+1+1) (bv n.k n.d sv) bc 0 ((aH w6 W.heap.size n.k n.d sv).setCell ⟨W.heap.size+1,0,none⟩ (.int .i64 bc)):=
   ⟨k2.blk a1 c6.ab,aj (k1.blk c6.hb (fun x=>c6.ab x.symm)) 0 _,k2.blk (k1.blk c6.hc (fun x=>c6.ac x.symm)) (fun x=>c6.bc x.symm),c6.ab,c6.ac,c6.bc⟩
  obtain ⟨c8,k8⟩:=c7.set n.k n.d sv bc 0;have hdr:∀v:World,Below v.heap.size v v.drew:=fun v=>(hH _ _).drew
  have K:Kp (fun j=>j=W.heap.size\/j=W.heap.size+1\/j=W.heap.size+1+1) w6 ((((aH ((aH w6 W.heap.size n.k n.d sv).setCell ⟨W.heap.size+1,0,none⟩ (.int .i64 bc)) W.heap.size n.k n.d sv).setCell ⟨W.heap.size+1,0,none⟩ (.int .i64 bc)).setCell ⟨W.heap.size+1+1,0,none⟩ (.int .i64 0)).drew):=(((k1.sub (fun j hj=>.inl hj)).trans (k2.sub (fun j hj=>.inr (.inl hj)))).trans k8).trans (Kp.of_below (hdr _));refine ⟨c6,_,rfl,c7,_,rfl,c8.below (hdr _),fun w9 hb9=>⟨(c8.below (hdr _)).below hb9,?_⟩⟩;have K9:=K.trans (Kp.of_below hb9);have B6:Below W.heap.size W w6:=hb3.trans (b6.mono hb3.size);refine ⟨lQ B6 K9 (fun j hj=>by omega) B6.size,n,sv,0,?_,?_,fun _=>⟨rfl,hn0.symm⟩,fun h=>absurd rfl h⟩
  ·rw [IO rfl,hbc];rfl
  ·have h35:=hb5.size;have t9:=TN.kp K9 (fun j hj=>by omega) n sv ht;exact TN.sub (fun j _ hj=>by omega) n sv t9
 have HI:Hid (∀w,CallsD Tryz.prog 39 #[pg W.heap.size,pg (W.heap.size+1),pg (W.heap.size+1+1)] .returning w fun e u' w'=>e=.returned (.tuple #[])/\u'=.returning/\Below w.heap.size w w'):=fun w=>yf _ _ _ w
 clear hl ha hsv c3 hb3 hn hz3 hn0 hbc
 dsimp only [bv,aB] at e3
 go_enter_defers func19,ntmps19
 go_wp2_with fail
 refine HN.out.mono ?_;rintro e w5 ⟨rfl,hb5,ao',cap',hcel,hgl,hle,hca,hcb,hlen⟩;have HB5:=ai hb5;have HL:=ai hle;clear hb5 e3 HN hle
 go_wp2_with fail
 refine (HBd.out w5 ao' cap' HL.out hca hcb hlen).mono ?_;rintro e w6 ⟨sv,rfl,ht,hb6⟩;obtain ⟨pv,cv,rfl,_⟩:=un ht;obtain ⟨c6,w7,e7,c7,w8,e8,c8,H9⟩:=HC6.out w5 w6 _ HB5.out hb6 ht;have HQ:=ai H9;obtain ⟨⟨⟨n0,n1,n2,n3,n4,n5,n6,n7⟩,b0,c0⟩,f0,f1,f2,f3,f4,f5,f6,f7⟩:=And.intro (kT c6) (bF c6.ha);have fb:w6.frozen? ⟨W.heap.size+1,0,none⟩=false:=am c6.hb;have la:=aq c6.ha;have lb:=aq c6.hb;have hab:=c6.ab;have hac:=c6.ac;have hbc:=c6.bc;have hba:=c6.ab.symm;have hca2:=c6.ac.symm;have hcb2:=c6.bc.symm;have C7:=ai c7;have C8:=ai c8;have E8:=ai e8;clear c6 c7 c8 e8 H9 ht hb6 HC6 HBd hcel hgl HL HB5 hca hcb hlen
 generalize W.heap.size+1+1=c at *
 generalize W.heap.size+1=b at *
 generalize hgen:W.heap.size=a at *
 unfold aH at e7
 dsimp only [ef,aB] at n1 n2 n3 n4 n5 n6 ⊢
 go_wp2_with fail
 clear n0 n1 n2 n3 n4 n5 n6 n7 b0 c0 f0 f1 f2 f3 f4 f5 f6 f7 fb la lb;obtain ⟨⟨⟨n0,n1,n2,n3,n4,n5,n6,n7⟩,b0,c0⟩,f0,f1,f2,f3,f4,f5,f6,f7⟩:=And.intro (kT C7.out) (bF C7.out.ha);have fb:w7.frozen? ⟨b,0,none⟩=false:=am C7.out.hb;have fc:w7.frozen? ⟨c,0,none⟩=false:=am C7.out.hc;have la:=aq C7.out.ha;have lb:=aq C7.out.hb;have lc:=aq C7.out.hc
 go_region
 all_goals (
  have e8:=E8.out;unfold aH at e8
  try rw [e8]
  clear e8 n0 n1 n2 n3 n4 n5 n6 n7 b0 c0 f0 f1 f2 f3 f4 f5 f6 f7 fb fc la lb lc
  go_wp2_with fail
  refine Tt (f:=39) (args:=#[pg a,pg b,pg c]) (by simp) (by simp [go_sem]) ?_;refine (HI.out _).mono ?_;rintro e u' w9 ⟨rfl,rfl,hb9⟩;obtain ⟨c9,hp⟩:=HQ.out w9 hb9;obtain ⟨⟨n0,n1,n2,n3,n4,n5,n6,n7⟩,b0,c0⟩:=kT c9;clear HQ HI C7 C8 E8 c9 hb9 hmf
  generalize hv:Ending.returned (.tuple #[ef n.k n.d (.slice pv n.c.length cv),.int .i64 bc,.int .i64 0])=rv at hp
  dsimp only [ef] at hv
  simp [Leaves,settle,results,Tryz.f19,go_sem,n0,n1,n2,n3,n4,n5,n6,n7,b0,c0,hv];exact hp)
theorem uP (hl:Lt W ao l) (hn:l.length<=4194304) {E:List Ev}{code:Int}{k:Nat}(ha:gi (.live [] 0) l E code k) :
  Qu 19 #[.slice ao l.length cap] W (OS W E code k):=by
 by_cases hc:code=0
 ·subst hc;exact sw hl hn ha
 ·exact uO hl hn ha hc
def Ik (t:Tv):Nat->List It->Int->List Ev->Option (Nat × Ro)
 |0,_,_,_=>none
 |f+1,[],n,E=>some (0,.no)
 |f+1,i :: K,n,E=>match It.step t i with
  |.ref=>some (0,.no)
  |.tk=>some (0,.yes K n E)
  |.go d o r=>match Ik t f (r++K) (n+d) (E++o) with
   |some (k,R)=>some (k+1,R)
   |none=>none
theorem DJ :∀(f:Nat) (K:List It) (n:Int) (E:List Ev) (k:Nat) (R:Ro),Ik t f K n E=some (k,R)->Ru t k K n E R
 |0,_,_,_,_,_,h=>by cases h
 |f+1,[],n,E,k,R,h=>by cases h;exact .nil
 |f+1,i :: K,n,E,k,R,h=>by
  simp only [Ik] at h;cases hs:It.step t i with
  |ref=>rw [hs] at h;cases h;exact .ref hs
  |tk=>rw [hs] at h;cases h;exact .tk hs
  |go d o r=>
   rw [hs] at h;simp only at h;cases hr:Ik t f (r++K) (n+d) (E++o) with
   |none=>rw [hr] at h;cases h
   |some x=>
    obtain ⟨k',R'⟩:=x;rw [hr] at h;cases h;exact .go hs (DJ f _ _ _ _ _ hr)
def IA (t:Tv):mg->Option (List Ev × Int × mg)
 |.live K n=>if (t.k == 7 || t.k == 8) then none else match Ik t 20 (beg K n) (gh n) (bK n) with
  |some (k,.yes L m E)=>if m<=1000 then some (E++[⟨2,0,t⟩],0,.live L m) else none
  |some (k,.no)=>some ([],120,.stuck 120 n)
  |none=>none
 |_=>none
theorem DI :∀(f:Nat) (K:List It) (n:Int) (E:List Ev) (k:Nat) (R:Ro),Ik t f K n E=some (k,R)->k+1<=f
 |0,_,_,_,_,_,h=>by cases h
 |f+1,[],n,E,k,R,h=>by cases h;omega
 |f+1,i :: K,n,E,k,R,h=>by
  simp only [Ik] at h;cases hs:It.step t i with
  |ref=>rw [hs] at h;cases h;omega
  |tk=>rw [hs] at h;cases h;omega
  |go d o r=>
   rw [hs] at h;simp only at h;cases hr:Ik t f (r++K) (n+d) (E++o) with
   |none=>rw [hr] at h;cases h
   |some x=>
    obtain ⟨k',R'⟩:=x;rw [hr] at h;cases h;have:=DI f _ _ _ _ _ hr;omega
theorem Iz {st:mg}{x:List Ev × Int × mg}(h:IA t st=some x):jH t st x.1 x.2.1 x.2.2:=by
 cases st with
 |live K n=>
  simp only [IA] at h
  split at h
  ·cases h
  ·rename_i hc
   have hc':(t.k == 7 || t.k == 8)=false:=by simpa using hc
   cases hr:Ik t 20 (beg K n) (gh n) (bK n) with
   |none=>rw [hr] at h;cases h
   |some y=>
    obtain ⟨k,R⟩:=y;have h1:=DJ _ _ _ _ _ _ hr;have h2:=DI _ _ _ _ _ _ hr;rw [hr] at h;cases R with
    |no=>cases h;exact .no hc' h1 (by omega)
    |yes L m E=>
     simp only at h
     split at h
     ·cases h;exact .yes hc' h1 (by omega) (by assumption)
     ·cases h
 |stuck e n=>cases h
 |shut=>cases h
def ua:List Tv->mg->Option (List Ev × Int × Nat)
 |[],.live K n=>if K.length=1 then some ([⟨3,1,aB⟩],0,0) else some ([],121,0)
 |[],_=>none
 |t :: l,st=>match IA t st with
  |some (ev,c,st')=>if c=0 then (match ua l st' with|some (E,c',k)=>some (ev++E,c',k+1)|none=>none) else some ([],c,0)
  |none=>none
theorem t8:∀(l:List Tv) (st:mg) (E:List Ev) (c:Int) (k:Nat),ua l st=some (E,c,k)->gi st l E c k
 |[],st,E,c,k,h=>by
  cases st with
  |live K n=>
   simp only [ua] at h
   split at h
   ·rename_i h1;cases h;exact .nil (.all h1)
   ·rename_i h1;cases h;exact .nil (.open h1)
  |stuck e n=>cases h
  |shut=>cases h
 |t :: l,st,E,c,k,h=>by
  simp only [ua] at h;cases hp:IA t st with
  |none=>rw [hp] at h;cases h
  |some x=>
   obtain ⟨ev,c1,st'⟩:=x;have h1:=Iz hp;rw [hp] at h;simp only at h h1
   split at h
   ·rename_i hc
    subst hc;cases hr:ua l st' with
    |none=>rw [hr] at h;cases h
    |some y=>
     obtain ⟨E2,c2,k2⟩:=y;rw [hr] at h;cases h;exact .on h1 (t8 l st' _ _ _ hr)
   ·rename_i hc
    cases h;exact .err h1 hc
theorem Bu {s s':List Int}{a b:List Ev}(h:cG s (a++b)=some s'):∃s1,cG s a=some s1:=by
 induction a generalizing s with
 |nil=>exact ⟨s,rfl⟩
 |cons e a ih=>
  simp only [cG,QW] at h ⊢
  split
  ·rename_i h1;rw [IO h1] at h;exact ih h
  ·grind
mutual
def O8:bO->Prop
 |.mk k d c=>if k=0 then c=[] else c≠[]/\d=aB/\qq c
def qq:List bO->Prop
 |[]=>True
 |n :: r=>O8 n/\qq r
end
theorem pK:∀(a b:List bO),qq a->qq b->qq (a++b)
 |[],b,_,h=>h
 |n :: r,b,h,h'=>by
  simp only [QW,qq] at h ⊢;exact ⟨h.1,pK r b h.2 h'⟩
def FS (S:List (Int × List bO)):Prop:=∀x∈S,qq x.2/\x.1≠0
def rK (S:List (Int × List bO)):Prop:=∃k c S',S=(k,c) :: S'/\c≠[]
theorem qk:∀(c:List Ev) (S:List (Int × List bO)) (s':List Int),(∀e∈c,e.k=3)->cG (S.map (·.1)) c=some s'->s'≠[]->FS S->(c≠[]->rK S)->∃S',S'.map (·.1)=s'/\FS S'/\(c≠[]->rK S')/\(c=[]->S'=S)/\∀rest,f9 (c++rest) S=f9 rest S'
 |[],S,s',_,h,_,hF,hT=>by cases h;exact ⟨S,rfl,hF,(fun h=>absurd rfl h),fun _=>rfl,fun rest=>rfl⟩
 |e :: c,S,s',hc,h,hs,hF,hT=>by
  have h3:=hc e (QA ..);have h1:¬e.k=1:=by omega
  obtain ⟨k,kids,S1,rfl,hne⟩:=hT (by simp);simp only [RU,cG,Eq h1,IO h3] at h
  split at h
  ·rename_i hk
   obtain ⟨k',c',S2,rfl⟩:∃k' c' S2,S1=(k',c') :: S2:=by
    cases S1 with
    |nil=>
     exfalso
     cases c with
     |nil=>simp [cG] at h;exact hs h
     |cons e2 c2=>
      have h3':=hc e2 (by simp);have h1':¬e2.k=1:=by omega
      simp [cG,h1',h3'] at h
    |cons x S2=>exact ⟨x.1,x.2,S2,rfl⟩
   have hk0:k≠0:=(hF (k,kids) (by simp)).2;have hful:O8 (.mk k aB kids):=by rw [O8,Eq hk0];exact ⟨hne,rfl,(hF (k,kids) (by simp)).1⟩
   have hF2:FS ((k',c'++[.mk k aB kids]) :: S2):=by
    intro x hx
    rcases QV.1 hx with rfl|hx
    ·have:=hF (k',c') (by simp);exact ⟨pK _ _ this.1 (by simp [qq,hful]),this.2⟩
    ·exact hF x (by simp [hx])
   have hT2:rK ((k',c'++[.mk k aB kids]) :: S2):=⟨k',_,S2,rfl,by simp⟩;obtain ⟨S',a1,a2,a3,a4,a5⟩:=qk c ((k',c'++[.mk k aB kids]) :: S2) s' (fun x hx=>hc x (QB _ hx)) (by simpa using h) hs hF2 (fun _=>hT2);refine ⟨S',a1,a2,fun _=>?_,(fun h=>by cases h),fun rest=>?_⟩
   ·by_cases hcn:c=[]
    ·rw [a4 hcn];exact hT2
    ·exact a3 hcn
   ·rw [QW,<-a5 rest];simp only [f9,Eq h1,IO h3,IO hk]
  ·cases h
theorem rI:∀(o:List Ev) (S:List (Int × List bO)) (s':List Int),(∀e∈o,e.k=1/\e.n≠0)->cG (S.map (·.1)) o=some s'->s'.length<=1000->FS S->∃S',S'.map (·.1)=s'/\FS S'/\S.length<=S'.length/\(∀rest,f9 (o++rest) S=f9 rest S')
 |[],S,s',_,h,_,hF=>by cases h;exact ⟨S,rfl,hF,gt _,fun rest=>rfl⟩
 |e :: o,S,s',hc,h,hs,hF=>by
  obtain ⟨h1,hn⟩:=hc e (QA ..);simp only [cG,IO h1] at h
  have hF2:FS ((e.n,[]) :: S):=by
   intro x hx
   rcases QV.1 hx with rfl|hx
   ·exact ⟨trivial,hn⟩
   ·exact hF x hx
  obtain ⟨S',a1,a2,a3,a4⟩:=rI o ((e.n,[]) :: S) s' (fun x hx=>hc x (QB _ hx)) h hs hF2;have hl:S'.length<=1000:=by have:=QM List.length a1;rw [Ui] at this;omega
  simp only [List.length_cons] at a3;refine ⟨S',a1,a2,by omega,fun rest=>?_⟩;rw [QW,<-a4 rest];simp only [f9,IO h1];rw [Eq (by intro hh;rcases hh with hh|hh;exact hn hh;omega)]
theorem Ao {t:Tv}{S:List (Int × List bO)}(hS:S≠[]) (hF:FS S):∃S',S'.map (·.1)=S.map (·.1)/\FS S'/\rK S'/\∀rest,f9 ((if cm t then ⟨4,0,t⟩ else ⟨2,0,t⟩) :: rest) S=f9 rest S':=by
 cases S with
 |nil=>exact absurd rfl hS
 |cons x S1=>
  obtain ⟨k,c⟩:=x;refine ⟨(k,c++[.mk 0 t []]) :: S1,rfl,?_,⟨k,_,S1,rfl,by simp⟩,fun rest=>?_⟩
  ·intro x hx
   rcases QV.1 hx with rfl|hx
   ·have:=hF (k,c) (by simp);exact ⟨pK _ _ this.1 (by simp [qq,O8]),this.2⟩
   ·exact hF x (by simp [hx])
  ·cases hc:cm t <;> simp [f9,hc]
theorem NW {K:List It}{R:Ro}(h:Ru t k K n E R):∀{L:List It}{m:Int}{F:List Ev},R=.yes L m F->∀e∈F,e∈E\/(e.k=1->e.n≠0):=by
 induction h with
 |nil=>intro L m F h;cases h
 |ref _=>intro L m F h;cases h
 |tk hs=>intro L m F h e he;cases h;exact .inl he
 |go hs hr ih=>
  rename_i k i K n d E o r R
  intro L m F h e he
  rcases ih h e he with h1|h1
  ·rcases QO.1 h1 with h2|h2
   ·exact .inl h2
   ·refine .inr (fun hk=>?_);cases i with
    |fl x=>
     cases x with
     |mt mm=>
      have hro:=gZ t mm;simp only [It.step,Fl.step] at hs;cases hrow:M.row t mm with
      |ref=>rw [hrow] at hs;cases hs
      |ex r'=>rw [hrow] at hs;cases hs;cases h2
      |op nd r'=>
       rw [hrow] at hs hro;cases hs;simp at h2;subst h2;have:=hro.2.2.2.1;show nd≠0;omega
     |_=>simp only [It.step,Fl.step] at hs;split at hs <;> cases hs
    |lv nn=>cases hs;simp at h2;subst h2;cases hk
    |once p=>cases hs;cases h2
    |again p=>cases hs;cases h2
    |all r'=>cases hs;cases h2
  ·exact .inr h1
structure Tj (K:List It) (S:List (Int × List bO)):Prop where
 pa:S.map (·.1)=bJ K
 fs:FS S
 tn:rK S\/K=ce++[.lv 1]
theorem Bm {m:Int}{F:List Ev}{L:List It}(h:Ru t k (ce++[.lv 1]) n E (.yes L m F)):F=E:=by
 cases h with
 |tk _=>rfl
 |go hs _=>
  simp only [It.step,Fl.step] at hs
  split at hs <;> cases hs
theorem Ed:∀(o:List Ev) (s s':List Int),(∀e∈o,e.k=1/\e.n≠1)->cG s o=some s'->s'.getLast?=some 1->s≠[]
 |[],s,s',_,h,hl=>by cases h;intro e;subst e;cases hl
 |e :: o,s,s',ho,h,hl=>by
  obtain ⟨h1,h2⟩:=ho e (by simp);simp only [cG,IO h1] at h;intro es;subst es
  have key:∀(o:List Ev) (s s':List Int) (x:Int),(∀e∈o,e.k=1)->cG s o=some s'->s.getLast?=some x->s'.getLast?=some x:=by
   intro o
   induction o with
   |nil=>intro s s' x _ h hx;cases h;exact hx
   |cons e2 o ih=>
    intro s s' x ho h hx;simp only [cG,IO (ho e2 (by simp))] at h;refine ih (e2.n :: s) s' x (fun y hy=>ho y (by simp [hy])) h ?_;cases s with
    |nil=>cases hx
    |cons y s=>simpa using hx
  have:=key o [e.n] s' e.n (fun y hy=>(ho y (by simp [hy])).1) h rfl;rw [this] at hl;exact h2 (by simpa using hl)
theorem ls:∀(l:List Tv) (K:List It) (n:Int) (S:List (Int × List bO)) (E:List Ev) (k:Nat),fY (.live K n)->GU K->Tj K S->gi (.live K n) l E 0 k->∃c,f9 E S=some (.mk 1 aB c)/\c≠[]/\qq c
 |[],K,n,S,E,k,hg,hb,hj,h=>by
  obtain ⟨hc,rfl⟩:=h.end;cases hc with
  |all hh=>
   have hK:K=[.lv 1]:=by
    rcases hb with hb|⟨X,hX⟩
    ·exact hb
    ·rw [hX] at hh;simp at hh
   subst hK;have hp:=hj.pa
   rcases hj.tn with ⟨k0,c,S',rfl,hne⟩|ht
   ·simp [bJ] at hp;obtain ⟨rfl,rfl⟩:=hp;refine ⟨c,?_,hne,(hj.fs (1,c) (by simp)).1⟩;simp [f9]
   ·cases ht
 |t :: l,K,n,S,E,k,hg,hb,hj,h=>by
  have hn:=gQ hg hb;obtain ⟨b1,b2,b3⟩:=iY (K:=K) hn;obtain ⟨g1,g2,g3,g4,g5,gbot,gbn,gbe⟩:=cJ hg
  have hSne:S≠[]:=by
   intro e;have:=hj.pa;rw [e] at this
   have h2:1<=(bJ K).length:=by
    rcases hb with rfl|⟨X,rfl⟩
    ·decide
    ·rw [bM];simp [bJ]
   rw [<-this] at h2;simp at h2
  rcases h.inv with ⟨ev,st',hp,hcd,rfl,rfl⟩|⟨ev,st',E2,k2,hp,hR2,rfl,rfl⟩
  ·exact absurd rfl hcd
  ·have hgs:=(dJ hg hp).1;cases hp with
   |note hh=>
    rw [b1,b2] at hR2 hgs;obtain ⟨S',a1,a2,a3,a4⟩:=Ao (t:=t) hSne hj.fs;have hcm:cm t=true:=hh;rw [hcm] at a4;obtain ⟨c,c1,c2,c3⟩:=ls l K n S' E2 k2 hgs hb ⟨a1.trans hj.pa,a2,.inl a3⟩ hR2;refine ⟨c,?_,c2,c3⟩;rw [b3,Q0,List.singleton_append,<-c1];exact a4 E2
   |yes hh hR hk hm2=>
    rename_i L m2 E1 k1
    obtain ⟨c1,c2,c3,o,c4,c5,c6,c7⟩:=eD hR rfl g1 g2 g3;obtain ⟨cc,oo,d1,d2,d3⟩:=DE hR rfl g1;have hnz:=NW hR rfl;have hL:=sd hR rfl (by rw [b1];exact hb);rw [b3,Q0] at c4 d1;obtain rfl:o=cc++oo:=c4.symm.trans d1;rw [b1] at c5 hR;rw [b3] at hR hnz;obtain ⟨s1,p1⟩:=Bu c5;have p2:cG s1 oo=some (bJ L):=by rw [<-c5,dK _ _ _ _ p1]
    have hlast:(bJ L).getLast?=some 1:=by
     rcases hL with rfl|⟨X,rfl⟩
     ·rfl
     ·rw [bM];simp [bJ]
    have hs1:=Ed oo s1 _ (fun e he=>⟨d3 e he,(c6 e (RG _ he)).2.2 (d3 e he)⟩) p2 hlast
    have htop:cc≠[]->rK S:=by
     intro hcc
     rcases hj.tn with ht|ht
     ·exact ht
     ·subst ht;have:=Bm hR;rw [c4] at this;simp at this;exact absurd this.1 hcc
    obtain ⟨S1,e1,e2,e3,e4,e5⟩:=qk cc S s1 d2 (by rw [hj.pa];exact p1) hs1 hj.fs htop
    obtain ⟨S2,f1,f2,f3,f4⟩:=rI oo S1 (bJ L) (fun e he=>⟨d3 e he,by
     rcases hnz e (by rw [c4];exact RG _ he) with h1|h1
     ·cases h1
     ·exact h1 (d3 e he)⟩) (by rw [e1];exact p2) (by omega) e2
    have hS2:S2≠[]:=by
     intro e;rw [e] at f1;have f1':bJ L=[]:=f1.symm;rw [f1'] at hlast;cases hlast
    obtain ⟨S3,a1,a2,a3,a4⟩:=Ao (t:=t) hS2 f2;have hcm:cm t=false:=hh;rw [hcm] at a4;obtain ⟨c,x1,x2,x3⟩:=ls l L m2 S3 E2 k2 hgs hL ⟨a1.trans f1,a2,.inl a3⟩ hR2;refine ⟨c,?_,x2,x3⟩;rw [c4,Qz,Qz,e5,f4,<-x1];exact a4 E2
theorem Gz (h:gi (.live [] 0) l E 0 k):∃c,f9 E []=some (.mk 1 aB c)/\c≠[]/\qq c:=by
 by_cases hl:l=[]
 ·subst hl;obtain ⟨hc,rfl⟩:=h.end;cases hc with
  |all hh=>simp at hh
 ·obtain ⟨E1,h1,h2⟩:=me h hl;obtain ⟨c,c1,c2,c3⟩:=ls l _ 1 [(1,[])] E1 k pG iX ⟨rfl,(fun x hx=>by simp at hx;subst hx;exact ⟨trivial,by decide⟩),.inr rfl⟩ h1;refine ⟨c,?_,c2,c3⟩;rw [h2 rfl,<-c1];simp [f9]
def OW (st:mg):Prop:=st=.live [] 0\/∃K n,st=.live K n/\GU K/\n≠0
theorem Iu {st st':mg}(hg:fY st) (hi:OW st) (hp:jH t st ev 0 st'):fY st'/\OW st':=by
 have hg':=(dJ hg hp).1;refine ⟨hg',?_⟩
 have hb:∀K n,st=.live K n->GU (beg K n):=by
  intro K n e
  rcases hi with hi|⟨K',n',hi,hb,hn⟩
  ·rw [hi] at e;cases e;exact iX
  ·rw [hi] at e;cases e;rw [(iY hn).1];exact hb
 cases hp with
 |stuck=>rcases hi with hi|⟨_,_,hi,_⟩ <;> cases hi
 |note hh=>
  have hb2:=hb _ _ rfl;exact .inr ⟨_,_,rfl,hb2,gQ hg' hb2⟩
 |yes hh hR hk hm=>
  have hb2:=sd hR rfl (hb _ _ rfl);exact .inr ⟨_,_,rfl,hb2,gQ hg' hb2⟩
theorem Jn:OW (.live [] 0):=.inl rfl
theorem Cm {st:mg}{c:Int}(hi:OW st) (h:wN st ev c):(c=0/\∃n,st=.live [.lv 1] n/\n≠0)\/c=121:=by
 rcases hi with rfl|⟨K,n,rfl,hb,hn⟩
 ·cases h with
  |all hh=>simp at hh
  | «open» hh=>exact .inr rfl
 ·cases h with
  |all hh=>
   refine .inl ⟨rfl,n,?_,hn⟩
   rcases hb with rfl|⟨X,rfl⟩
   ·rfl
   ·simp at hh
  | «open» hh=>exact .inr rfl
structure O7 (W:World) (E:List Ev) (code:Int) (a:Nat) (e:Ending) (w':World):Prop where
 bel:Below W.heap.size W w'
 ex:∃(n:bO) (p:Option Addr) (cv:Nat),e=.returned (.tuple #[ef n.k n.d (.slice p n.c.length cv),.int .i64 code,.int .i64 ((if code=0 then 0 else a:Nat):Int)])/\TN (fun j=>W.heap.size<=j) w' n (.slice p n.c.length cv)/\(code=0->f9 E []=some n)/\(code≠0->n=.mk 0 aB [])
theorem J8 {n:bO}(h:f9 E []=some n):bo E=(n,0):=by unfold bo;rw [h]
theorem sy (hl:Lt W ao l) (hn:l.length<=4194304) {E:List Ev}{code:Int}{a:Nat}(ha:gi (.live [] 0) l E code a) :
  Qu 19 #[.slice ao l.length cap] W (O7 W E code a):=by
 refine (uP hl hn ha).mono ?_;rintro e w' ⟨hb,n,sv,at',he,ht,h1,h2⟩;obtain ⟨p,cv,rfl,_⟩:=un ht
 by_cases hc:code=0
 ·subst hc;obtain ⟨c,hbl,_⟩:=Gz ha;have h3:=J8 hbl;obtain ⟨rfl,rfl⟩:=h1 rfl;rw [h3] at he ht;exact ⟨hb,_,p,cv,he,ht,fun _=>hbl,fun h=>absurd rfl h⟩
 ·obtain ⟨rfl,rfl⟩:=h2 hc;rw [Eq hc] at he;exact ⟨hb,_,p,cv,by rw [Eq hc];exact he,ht,fun h=>absurd h hc,fun _=>rfl⟩
def um (e:Ev):Option Tv:=if e.k=2\/e.k=4 then some e.d else none
def O2 (e:Ev):Prop:=zr e=e
theorem sL {e:Ev}(hk:e.k=1\/e.k=3) (hd:e.d=aB):O2 e/\um e=none:=by
 obtain ⟨k,n,d⟩:=e;simp only at hk hd;subst hd;refine ⟨by simp [O2,zr,hk],?_⟩;unfold um;rw [Eq (by simp only;omega)]
theorem lV:∀(o:List Ev),(∀e∈o,um e=none)->o.filterMap um=[]
 |[],_=>rfl
 |e :: o,h=>by rw [List.filterMap_cons_none (h e (by simp))];exact lV o (fun x hx=>h x (by simp [hx]))
theorem oy:∀(l:List Tv) (K:List It) (n:Int) (E:List Ev) (k:Nat),fY (.live K n)->GU K->gi (.live K n) l E 0 k->E.filterMap um=l/\∀e∈E,O2 e
 |[],K,n,E,k,hg,hb,h=>by
  obtain ⟨hc,rfl⟩:=h.end;cases hc with
  |all hh=>
   have:=sL (e:=⟨3,1,aB⟩) (.inr rfl) rfl;exact ⟨lV _ (fun e he=>by simp at he;subst he;exact this.2),fun e he=>by simp at he;subst he;exact this.1⟩
 |t :: l,K,n,E,k,hg,hb,h=>by
  have hn:=gQ hg hb;obtain ⟨b1,b2,b3⟩:=iY (K:=K) hn;obtain ⟨g1,g2,g3,g4,g5,gbot,gbn,gbe⟩:=cJ hg
  rcases h.inv with ⟨ev,st',hp,hcd,rfl,rfl⟩|⟨ev,st',E2,k2,hp,hR2,rfl,rfl⟩
  ·exact absurd rfl hcd
  ·have hgs:=(dJ hg hp).1;cases hp with
   |note hh=>
    rw [b1,b2] at hR2 hgs;obtain ⟨a1,a2⟩:=oy l K n E2 k2 hgs hb hR2;rw [b3];refine ⟨by simp [um,a1],fun e he=>?_⟩;simp at he
    rcases he with rfl|he
    ·rfl
    ·exact a2 e he
   |yes hh hR hk hm2=>
    rename_i L m2 E1 k1
    obtain ⟨c1,c2,c3,o,c4,c5,c6,c7⟩:=eD hR rfl g1 g2 g3;have hL:=sd hR rfl (by rw [b1];exact hb);obtain ⟨a1,a2⟩:=oy l L m2 E2 k2 hgs hL hR2;rw [c4,b3];have ho:=lV o (fun e he=>(sL (c6 e he).2.1 (c6 e he).1).2);refine ⟨by simp [um,a1,ho],fun e he=>?_⟩;simp at he
    rcases he with he|rfl|he
    ·exact (sL (c6 e he).2.1 (c6 e he).1).1
    ·rfl
    ·exact a2 e he
theorem GA (h:gi (.live [] 0) l E 0 k):E.filterMap um=l/\E.map zr=E:=by
 have fin:∀E:List Ev,(∀e∈E,O2 e)->E.map zr=E:=by
  intro E
  induction E with
  |nil=>intro _;rfl
  |cons e E ih=>intro h;rw [RU,h e (by simp),ih (fun x hx=>h x (by simp [hx]))]
 by_cases hl:l=[]
 ·subst hl;obtain ⟨hc,rfl⟩:=h.end;cases hc with
  |all hh=>simp at hh
 ·obtain ⟨E1,h1,h2⟩:=me h hl;obtain ⟨a1,a2⟩:=oy l _ 1 E1 k pG iX h1;have hm:=sL (e:=⟨1,1,aB⟩) (.inl rfl) rfl;rw [h2 rfl];exact ⟨by rw [List.filterMap_cons_none hm.2];exact a1,by rw [RU,fin E1 a2,show zr ⟨1,1,aB⟩=⟨1,1,aB⟩ from hm.1]⟩
theorem GD:∀{l:List Tv}{st:mg}{E:List Ev}{code:Int}{a:Nat},fY st->OW st->gi st l E code a->code≠0->((code=121↔a=l.length)/\a<=l.length)
 |[],st,E,code,a,hg,hi,h,hc=>by
  obtain ⟨h1,rfl⟩:=h.end
  rcases Cm hi h1 with ⟨h2,_⟩|h2
  ·exact absurd h2 hc
  ·exact ⟨⟨fun _=>rfl,fun _=>h2⟩,gt _⟩
 |t :: l,st,E,code,a,hg,hi,h,hc=>by
  rcases h.inv with ⟨ev,st',hp,hcd,rfl,rfl⟩|⟨ev,st',E2,k2,hp,hR2,rfl,rfl⟩
  ·have:code≠121:=by
    rcases hi with rfl|⟨K,n,rfl,_⟩
    ·cases hp <;> simp_all
    ·cases hp <;> simp_all
   exact ⟨⟨fun h=>absurd h this,fun h=>by simp at h⟩,Qw _⟩
  ·obtain ⟨h1,h2⟩:=Iu hg hi hp;obtain ⟨h3,h4⟩:=GD h1 h2 hR2 hc;refine ⟨?_,by simp;omega⟩;rw [h3];simp
abbrev jE (c x y z:Int):Obj:=.cells #[.int .i64 c,.int .i64 x,.int .i64 y,.int .i64 z] 28
abbrev lk (g:Nat):Value:=.iface 82 (.pointer (some ⟨g,0,none⟩))
theorem rz (x y z:Int) (W:World):Qu 29 #[.int .i64 0,.agg #[.int .i64 x,.int .i64 y,.int .i64 z]] W fun r w'=>r=.returned .nilIface/\Below W.heap.size W w':=by
 go_enter func29,ntmps29
 go_wp2_with fail
 go_ret
 exact ⟨rfl,(hH _ _).alloc (gt _) _⟩
theorem jv (c x y z:Int) (hc:c≠0) (W:World):Qu 29 #[.int .i64 c,.agg #[.int .i64 x,.int .i64 y,.int .i64 z]] W fun r w'=>∃g,r=.returned (lk g)/\w'.heap[g]?=some (jE c x y z)/\W.heap.size<=g/\Below W.heap.size W w':=by
 have q:(c == 0)=false:=by simpa using hc
 obtain ⟨W1,e1⟩:∃W1,W.alloc (.cells #[.int .i64 x,.int .i64 y,.int .i64 z] 26)=W1:=⟨_,rfl⟩;have HB:Hid (Qv W W1):=by rw [<-e1];exact (hH _ _).alloc (gt _) _
 have c0:W1.cell? ⟨W.heap.size,0,none⟩=some (.int .i64 x):=by rw [<-e1];exact af (au _ _) rfl
 have c1:W1.cell? ⟨W.heap.size,1,none⟩=some (.int .i64 y):=by rw [<-e1];exact af (au _ _) rfl
 have c2:W1.cell? ⟨W.heap.size,2,none⟩=some (.int .i64 z):=by rw [<-e1];exact af (au _ _) rfl
 go_enter func29,ntmps29
 go_wp2_with fail
 try rw [e1]
 clear e1
 go_wp2_with fail
 go_ret
 exact ⟨_,rfl,au _ _,HB.out.size,HB.out.alloc HB.out.size _⟩
theorem Bj {W V:World}{g:Nat}{k0:Int}{d0:Tv}{s0:Value}(h:V.heap[g]?=some (bv k0 d0 s0)) (hb:Below W.heap.size W V) (hg:W.heap.size<=g) (k:Int) (d:Tv) (s:Value):(aH V g k d s).heap[g]?=some (bv k d s)/\Below W.heap.size W (aH V g k d s)/\Kp (fun j=>j=g) V (aH V g k d s):=
 ⟨fS h k d s,Kp.low hb (eu V g k d s) (fun k e=>by subst e;exact hg) hb.size,eu V g k d s⟩
def Qg (W:World) (E:List Ev) (r:Ending) (w':World):Prop:=∃n p cv,r=.returned (.tuple #[ef n.k n.d (.slice p n.c.length cv),.nilIface])/\TN (fun j=>W.heap.size<=j) w' n (.slice p n.c.length cv)/\f9 E []=some n/\Below W.heap.size W w'
theorem pM (hl:Lt W ao l) (hn:l.length<=4194304) {E:List Ev}{a:Nat}(ha:gi (.live [] 0) l E 0 a) :
  Qu 67 #[.slice ao l.length cap] W (Qg W E):=by
 obtain ⟨W0,e0⟩:∃W0,W.alloc (bv 0 aB (.slice none 0 0))=W0:=⟨_,rfl⟩;have h0:Below W.heap.size W W0:=by rw [<-e0];exact (hH _ _).alloc (gt _) _
 have hz:W0.heap.size=W.heap.size+1:=by rw [<-e0];simp
 have hb0:W0.heap[W.heap.size]?=some (bv 0 aB (.slice none 0 0)):=by rw [<-e0];exact au _ _
 have HP:Hid (Qu 19 #[.slice ao l.length cap] W0 (O7 W0 E 0 a)):=sy (hl.below h0) hn ha;have H0:Hid (Below W.heap.size W W0/\W0.heap.size=W.heap.size+1/\W0.heap[W.heap.size]?=some (bv 0 aB (.slice none 0 0))):=⟨h0,hz,hb0⟩;obtain ⟨g,hg⟩:∃g,W.heap.size=g:=⟨_,rfl⟩
 dsimp only [bv,aB] at e0
 clear hl hn ha h0 hz hb0
 go_enter func67,ntmps67
 go_wp2_with fail
 try rw [e0]
 try rw [hg]
 clear e0;refine HP.out.mono ?_;rintro e w4 ⟨hb4,n,p,cv,rfl,ht,hn0,hn1⟩;obtain ⟨V4,eV4⟩:∃V4,w4.alloc (bv n.k n.d (.slice p n.c.length cv))=V4:=⟨_,rfl⟩;obtain ⟨g4,hg4⟩:∃g4,w4.heap.size=g4:=⟨_,rfl⟩
 have H4:Hid (Below W0.heap.size W0 V4/\V4.heap[g4]?=some (bv n.k n.d (.slice p n.c.length cv))/\TN (fun j=>W0.heap.size<=j) V4 n (.slice p n.c.length cv)/\V4.heap[g]?=some (bv 0 aB (.slice none 0 0))/\f9 E []=some n):=by
  have hx:Below w4.heap.size w4 V4:=by rw [<-eV4];exact (hH _ _).alloc (gt _) _
  have hy:Below W0.heap.size W0 V4:=hb4.trans (hx.mono hb4.size);exact ⟨hy,by rw [<-eV4,<-hg4];exact au _ _,TN.kp (Kp.of_below (S:=fun _=>False) hx) (fun _ _ h=>h) n _ ht,ag (by rw [<-hg];exact H0.out.2.2) hy,hn0 rfl⟩
 dsimp only [bv] at eV4
 obtain ⟨⟨c0,c1,c2,c3,c4,c5,c6,c7⟩,cl⟩:=aD H4.out.2.1;obtain ⟨⟨r0,r1,r2,r3,r4,r5,r6,r7⟩,rl⟩:=aD H4.out.2.2.2.1;obtain ⟨f0,f1,f2,f3,f4,f5,f6,f7⟩:=bF H4.out.2.2.2.1;clear hb4 ht hn0 hn1 HP
 go_wp2_with fail
 try rw [eV4]
 try rw [hg4]
 clear eV4 hg4
 go_wp2_with fail
 have h9:=Bj (W:=W) (g:=g) H4.out.2.2.2.1 (H0.out.1.trans (H4.out.1.mono H0.out.1.size)) (by omega) n.k n.d (.slice p n.c.length cv);obtain ⟨w9,e9⟩:∃w9,aH V4 g n.k n.d (.slice p n.c.length cv)=w9:=⟨_,rfl⟩;rw [e9] at h9
 dsimp only [aH] at e9
 rw [e9];obtain ⟨⟨x0,x1,x2,x3,x4,x5,x6,x7⟩,xl⟩:=aD h9.1;refine QK (v:=.tuple #[ef n.k n.d (.slice p n.c.length cv),.nilIface]) (by simp [results,Tryz.f67,go_sem,x0,x1,x2,x3,x4,x5,x6,x7]) rfl ?_;refine ⟨n,p,cv,rfl,TN.sub (O:=fun j=>W0.heap.size<=j) (fun k _ h=>?_) n _ (TN.kp h9.2.2 (fun k h e=>?_) n _ H4.out.2.2.1),H4.out.2.2.2.2,h9.2.1⟩
 ·have:=H0.out.2.1;show W.heap.size<=k;have h':W0.heap.size<=k:=h;omega
 ·have:=H0.out.2.1;have h':W0.heap.size<=k:=h;have e':k=g:=e;omega
theorem BT (hl:Lt W ao l) (hn:l.length<=4194304) {E:List Ev}{a:Nat}{code:Int}(ha:gi (.live [] 0) l E code a) (hc:code≠0) {t:Tv}(hat:l[a]?=some t) :
  Qu 67 #[.slice ao l.length cap] W fun r w'=>∃g,r=.returned (.tuple #[ef 0 aB (.slice none 0 0),lk g])/\w'.heap[g]?=some (jE code t.a t.l t.c)/\W.heap.size<=g/\Below W.heap.size W w':=by
 obtain ⟨W0,e0⟩:∃W0,W.alloc (bv 0 aB (.slice none 0 0))=W0:=⟨_,rfl⟩;have h0:Below W.heap.size W W0:=by rw [<-e0];exact (hH _ _).alloc (gt _) _
 have hz:W0.heap.size=W.heap.size+1:=by rw [<-e0];simp
 have hb0:W0.heap[W.heap.size]?=some (bv 0 aB (.slice none 0 0)):=by rw [<-e0];exact au _ _
 have HP:Hid (Qu 19 #[.slice ao l.length cap] W0 (O7 W0 E code a)):=sy (hl.below h0) hn ha;have H0:Hid (Below W.heap.size W W0/\W0.heap.size=W.heap.size+1/\W0.heap[W.heap.size]?=some (bv 0 aB (.slice none 0 0))/\Lt W0 ao l):=⟨h0,hz,hb0,hl.below h0⟩;obtain ⟨g,hg⟩:∃g,W.heap.size=g:=⟨_,rfl⟩;have HF:Hid (∀V,Qu 29 #[.int .i64 code,.agg #[.int .i64 t.a,.int .i64 t.l,.int .i64 t.c]] V fun r w'=>∃g,r=.returned (lk g)/\w'.heap[g]?=some (jE code t.a t.l t.c)/\V.heap.size<=g/\Below V.heap.size V w'):=fun V=>jv code t.a t.l t.c hc V
 have hlt:=(QI.1 hat).1;have q1:(a:Int)<l.length:=by omega
 have q0:(0:Int)<=a:=by omega
 have q2:(code == 0)=false:=by simpa using hc
 have hif:((if code=0 then 0 else a:Nat):Int)=a:=by rw [Eq hc]
 have HT:Hid (∀V,Below W0.heap.size W0 V->∃b off,ao=some ⟨b,off,none⟩/\V.cell? ⟨b,off+a*6+2,none⟩=some (.int .i64 t.a)/\V.cell? ⟨b,off+a*6+3,none⟩=some (.int .i64 t.l)/\V.cell? ⟨b,off+a*6+4,none⟩=some (.int .i64 t.c)):=fun V hb=>by
  obtain ⟨b,off,e,_,_,y2,y3,y4,_⟩:=(H0.out.2.2.2.below hb) a t hat;exact ⟨b,off,e,y2,y3,y4⟩
 dsimp only [bv,aB] at e0
 clear hl hn ha h0 hz hb0 hat hc
 go_enter func67,ntmps67
 go_wp2_with fail
 try rw [e0]
 try rw [hg]
 clear e0;refine HP.out.mono ?_;rintro e w4 ⟨hb4,n,p,cv,rfl,ht,hn0,hn1⟩;rw [hif];obtain ⟨V4,eV4⟩:∃V4,w4.alloc (bv n.k n.d (.slice p n.c.length cv))=V4:=⟨_,rfl⟩;obtain ⟨g4,hg4⟩:∃g4,w4.heap.size=g4:=⟨_,rfl⟩
 have H4:Hid (Below W0.heap.size W0 V4/\V4.heap[g]?=some (bv 0 aB (.slice none 0 0))):=by
  have hx:Below w4.heap.size w4 V4:=by rw [<-eV4];exact (hH _ _).alloc (gt _) _
  have hy:Below W0.heap.size W0 V4:=hb4.trans (hx.mono hb4.size);exact ⟨hy,ag (by rw [<-hg];exact H0.out.2.2.1) hy⟩
 dsimp only [bv] at eV4
 obtain ⟨b,off,rfl,y2,y3,y4⟩:=HT.out V4 H4.out.1;clear hb4 ht hn0 hn1 HP hif
 go_wp2_with fail
 try rw [eV4]
 try rw [hg4]
 clear eV4 hg4
 go_wp2_with (go_at_call 29;refine (HF.out _).mono ?_;rintro r w5 ⟨g5,rfl,y5,y6,y7⟩;have H5:Hid (w5.heap[g5]?=some (jE code t.a t.l t.c)/\V4.heap.size<=g5/\Below V4.heap.size V4 w5/\w5.heap[g]?=some (bv 0 aB (.slice none 0 0))):=⟨y5,y6,y7,ag H4.out.2 y7⟩;clear y5 y6 y7;obtain ⟨⟨r0,r1,r2,r3,r4,r5,r6,r7⟩,rl⟩:=aD H5.out.2.2.2;obtain ⟨f0,f1,f2,f3,f4,f5,f6,f7⟩:=bF H5.out.2.2.2)
 have hW4:Below W.heap.size W V4:=H0.out.1.trans (H4.out.1.mono H0.out.1.size);have h9:=Bj (W:=W) (g:=g) H5.out.2.2.2 (hW4.trans (H5.out.2.2.1.mono hW4.size)) (by omega) 0 aB (.slice none 0 0);obtain ⟨w9,e9⟩:∃w9,aH w5 g 0 aB (.slice none 0 0)=w9:=⟨_,rfl⟩;rw [e9] at h9
 dsimp only [aH,aB] at e9
 rw [e9];obtain ⟨⟨x0,x1,x2,x3,x4,x5,x6,x7⟩,xl⟩:=aD h9.1
 dsimp only [aB] at x0 x1 x2 x3 x4 x5 x6 x7
 refine QK (v:=.tuple #[ef 0 aB (.slice none 0 0),lk g5]) (by simp [results,Tryz.f67,go_sem,x0,x1,x2,x3,x4,x5,x6,x7,aB]) rfl ?_;have h5:=H5.out.2.1;have h6:=hW4.size;have h7:=H4.out.1.size;have h8:=H0.out.2.1;refine ⟨g5,rfl,?_,by omega,h9.2.1⟩;have hz:=h9.2.2.block g5 (aq H5.out.1) (fun e=>by have e':g5=g:=e;omega);rw [hz];exact H5.out.1
theorem BS (hl:Lt W ao l) (hn:l.length<=4194304) {E:List Ev}{a:Nat}{code:Int}(ha:gi (.live [] 0) l E code a) (hc:code≠0) (hat:a=l.length) :
  Qu 67 #[.slice ao l.length cap] W fun r w'=>r=.returned (.tuple #[ef 0 aB (.slice none 0 0),.iface 24 (.int .i64 code)])/\Below W.heap.size W w':=by
 obtain ⟨W0,e0⟩:∃W0,W.alloc (bv 0 aB (.slice none 0 0))=W0:=⟨_,rfl⟩;have h0:Below W.heap.size W W0:=by rw [<-e0];exact (hH _ _).alloc (gt _) _
 have hb0:W0.heap[W.heap.size]?=some (bv 0 aB (.slice none 0 0)):=by rw [<-e0];exact au _ _
 have HP:Hid (Qu 19 #[.slice ao l.length cap] W0 (O7 W0 E code a)):=sy (hl.below h0) hn ha;have H0:Hid (Below W.heap.size W W0/\W0.heap[W.heap.size]?=some (bv 0 aB (.slice none 0 0))):=⟨h0,hb0⟩;obtain ⟨g,hg⟩:∃g,W.heap.size=g:=⟨_,rfl⟩;have q1:¬((a:Int)<l.length):=by omega
 have q2:(code == 0)=false:=by simpa using hc
 have hif:((if code=0 then 0 else a:Nat):Int)=a:=by rw [Eq hc]
 dsimp only [bv,aB] at e0
 clear hl hn ha h0 hb0 hat hc
 go_enter func67,ntmps67
 go_wp2_with fail
 try rw [e0]
 try rw [hg]
 clear e0;refine HP.out.mono ?_;rintro e w4 ⟨hb4,n,p,cv,rfl,ht,hn0,hn1⟩;rw [hif];obtain ⟨V4,eV4⟩:∃V4,w4.alloc (bv n.k n.d (.slice p n.c.length cv))=V4:=⟨_,rfl⟩;obtain ⟨g4,hg4⟩:∃g4,w4.heap.size=g4:=⟨_,rfl⟩
 have H4:Hid (Below W0.heap.size W0 V4/\V4.heap[g]?=some (bv 0 aB (.slice none 0 0))):=by
  have hx:Below w4.heap.size w4 V4:=by rw [<-eV4];exact (hH _ _).alloc (gt _) _
  have hy:Below W0.heap.size W0 V4:=hb4.trans (hx.mono hb4.size);exact ⟨hy,ag (by rw [<-hg];exact H0.out.2) hy⟩
 dsimp only [bv] at eV4
 obtain ⟨⟨r0,r1,r2,r3,r4,r5,r6,r7⟩,rl⟩:=aD H4.out.2;obtain ⟨f0,f1,f2,f3,f4,f5,f6,f7⟩:=bF H4.out.2;clear hb4 ht hn0 hn1 HP hif
 go_wp2_with fail
 try rw [eV4]
 try rw [hg4]
 clear eV4 hg4
 go_wp2_with fail
 have hW4:Below W.heap.size W V4:=H0.out.1.trans (H4.out.1.mono H0.out.1.size);have h9:=Bj (W:=W) (g:=g) H4.out.2 hW4 (by omega) 0 aB (.slice none 0 0);obtain ⟨w9,e9⟩:∃w9,aH V4 g 0 aB (.slice none 0 0)=w9:=⟨_,rfl⟩;rw [e9] at h9
 dsimp only [aH,aB] at e9
 rw [e9];obtain ⟨⟨x0,x1,x2,x3,x4,x5,x6,x7⟩,xl⟩:=aD h9.1
 dsimp only [aB] at x0 x1 x2 x3 x4 x5 x6 x7
 refine QK (v:=.tuple #[ef 0 aB (.slice none 0 0),.iface 24 (.int .i64 code)]) (by simp [results,Tryz.f67,go_sem,x0,x1,x2,x3,x4,x5,x6,x7,aB]) rfl ?_;exact ⟨rfl,h9.2.1⟩
end Go.Proofs.YtacohdpndpliaaaGreatDoor
