import Derived.Defers
import Derived.Recover
import Derived.Laws.Pointers
import Derived.Test.YtjiepkenkcgkhaaGreatDoorM16
import Derived.Test.YtjiepkenkcgkhaaGreatDoorM24
import Derived.Test.YtjiepkenkcgkhaaGreatDoorM26
set_option linter.unusedVariables false
set_option linter.unusedSimpArgs false
set_option maxHeartbeats 2000000
namespace Go.Proofs.YtjiepkenkcgkhaaGreatDoor
open Go.RowKit
variable {l:List Tv}{W w:World}{t:Tv}{ao:Option Addr}{cap k a b c:Nat}{E ev:List Ev}{e i n:Int}
theorem LD (w:World):(Instr.typeAssert .nilIface 20 180 true).run Tryz.prog w=.ok (.tuple #[.agg #[.int .i64 0,.int .i64 0],.bool false]) w:=by kernel_rfl
theorem Hj (c i:Int) (w:World):(Instr.typeAssert (.iface 180 (.agg #[.int .i64 c,.int .i64 i])) 20 180 true).run Tryz.prog w=.ok (.tuple #[.agg #[.int .i64 c,.int .i64 i],.bool true]) w:=by kernel_rfl
theorem xZ (a b c:Nat) (w:World) :
  CallsD Tryz.prog 109 #[pg a,pg b,pg c] .returning w fun e u' w'=>e=.returned (.tuple #[])/\u'=.returning/\Below w.heap.size w w':=by
 have HB:Hid (∀o,Rc w (w.alloc o)):=fun o=>(hH _ _).alloc (gt _) _
 refine callsD_of_wpS Tryz.func109 rfl fun c₀ cs hu=>?_
 apply wpS_seq
 apply wpS_region
 simp [wpOpsS,go_sem,recoverD,hu,Tryz.ntmps109,Exit.thenS,LD];refine wpS_of_wp ?_
 go_wp2_with fail
 have hx:=HB.out (.cells #[.int .i64 0,.int .i64 0] 180);clear HB;cases c₀
 simp_all [bodyPostS,results,Tryz.f109,go_sem]
structure Cz (a b c:Nat) (n:Obj) (e i:Int) (w:World):Prop where
 ha:w.heap[a]?=some n
 hb:w.heap[b]?=some (.cells #[.int .i64 e] 32)
 hc:w.heap[c]?=some (.cells #[.int .i64 i] 3)
 ab:a≠b
 ac:a≠c
 bc:b≠c
theorem Cz.below {n:Obj}{w':World}(h:Cz a b c n e i w) (hb:Below w.heap.size w w'):Cz a b c n e i w':=⟨ag h.ha hb,ag h.hb hb,ag h.hc hb,h.ab,h.ac,h.bc⟩
theorem Cz.set {k0:Int}{d0:Tv}{s0:Value}{e0 i0:Int}(h:Cz a b c (bv k0 d0 s0) e0 i0 w) (k:Int) (d:Tv) (s:Value) (e i:Int):Cz a b c (bv k d s) e i (((aH w a k d s).setCell ⟨b,0,none⟩ (.int .i64 e)).setCell ⟨c,0,none⟩ (.int .i64 i))/\Kp (fun j=>j=a\/j=b\/j=c) w (((aH w a k d s).setCell ⟨b,0,none⟩ (.int .i64 e)).setCell ⟨c,0,none⟩ (.int .i64 i)):=by
 have k1:=ep w a k d s;have k2:=Kp.set (aH w a k d s) b 0 (.int .i64 e);have k3:=Kp.set ((aH w a k d s).setCell ⟨b,0,none⟩ (.int .i64 e)) c 0 (.int .i64 i);have a1:=fS h.ha k d s;have b1:=k1.blk h.hb (fun x=>h.ab x.symm);have c1:=k1.blk h.hc (fun x=>h.ac x.symm);refine ⟨⟨k3.blk (k2.blk a1 h.ab) h.ac,k3.blk (aj b1 0 _) h.bc,aj (k2.blk c1 (fun x=>h.bc x.symm)) 0 _,h.ab,h.ac,h.bc⟩,?_⟩;exact ((k1.sub (fun j hj=>.inl hj)).trans (k2.sub (fun j hj=>.inr (.inl hj)))).trans (k3.sub (fun j hj=>.inr (.inr hj)))
theorem Ly (x0 x1 x2 v0 v1 v2 v3 v4 v5 v6:Value):#[x0,x1,x2]++(((((((Array.replicate 13 undef).setIfInBounds 3 v3).setIfInBounds 4 v4).setIfInBounds 2 v2).setIfInBounds 5 v5).setIfInBounds 6 v6).setIfInBounds 0 v0).setIfInBounds 1 v1=#[x0,x1,x2,v0,v1,v2,v3,v4,v5,v6,undef,undef,undef,undef,undef,undef]:=by kernel_rfl
theorem wn (a b c:Nat) (k0:Int) (d0:Tv) (s0:Value) (e0 i0:Int) (e:Int) (i:Nat) (w:World) (h:Cz a b c (bv k0 d0 s0) e0 i0 w) :
  CallsD Tryz.prog 109 #[pg a,pg b,pg c] (.panicking (stop e i)) w fun r u' w'=>r=.returned (.tuple #[])/\u'=.panicking [{ v:=.iface 180 (.agg #[.int .i64 e,.int .i64 (i:Int)]),recovered:=true }]/\Cz a b c (bv 0 aB (.slice none 0 0)) e i w'/\Kp (fun j=>j=a\/j=b\/j=c) w w':=by
 refine callsD_of_wpS Tryz.func109 rfl fun c₀ cs hu=>?_
 apply wpS_seq
 apply wpS_region
 simp [wpOpsS,go_sem,recoverD,hu,Tryz.ntmps109,Exit.thenS,Hj];refine wpS_of_wp ?_;rw [Ly];obtain ⟨w1,e1⟩:∃w1,w.alloc (.cells #[.int .i64 e,.int .i64 (i:Int)] 180)=w1:=⟨_,rfl⟩;have hb:Below w.heap.size w w1:=by rw [<-e1];exact (hH _ _).alloc (gt _) _
 have hn:w1.heap[w.heap.size]?=some (.cells #[.int .i64 e,.int .i64 (i:Int)] 180):=by rw [<-e1];exact au _ _
 have h1:=h.below hb
 have HX:Hid (∃wz,(((aH w1 a 0 aB (.slice none 0 0)).setCell ⟨b,0,none⟩ (.int .i64 e)).setCell ⟨c,0,none⟩ (.int .i64 i)).drew=wz/\Cz a b c (bv 0 aB (.slice none 0 0)) e i wz/\Kp (fun j=>j=a\/j=b\/j=c) w wz):=by
  obtain ⟨x1,x2⟩:=h1.set 0 aB (.slice none 0 0) e i;have hb2:∀v:World,Below v.heap.size v v.drew:=fun v=>(hH _ _).drew
  exact ⟨_,rfl,x1.below (hb2 _),((Kp.of_below (S:=fun j=>j=a\/j=b\/j=c) hb).trans x2).trans (Kp.of_below (hb2 _))⟩
 obtain ⟨⟨n0,n1,n2,n3,n4,n5,n6,n7⟩,nl⟩:=aD h1.ha;obtain ⟨f0,f1,f2,f3,f4,f5,f6,f7⟩:=bC h1.ha;have y0:w1.cell? ⟨w.heap.size,0,none⟩=_:=af hn rfl;have y1:w1.cell? ⟨w.heap.size,1,none⟩=_:=af hn rfl;have hab:=h.ab;have hac:=h.ac;have hbc:=h.bc;have hba:=h.ab.symm;have hca:=h.ac.symm;have hcb:=h.bc.symm;have za:w.heap.size≠a:=fun x=>by have:=aq h.ha;omega
 have zb:w.heap.size≠b:=fun x=>by have:=aq h.hb;omega
 have zc:w.heap.size≠c:=fun x=>by have:=aq h.hc;omega
 have z1:=aq hn;have b0:w1.cell? ⟨b,0,none⟩=_:=af h1.hb rfl;have c0:w1.cell? ⟨c,0,none⟩=_:=af h1.hc rfl;have bl:=aq h1.hb;have cl:=aq h1.hc;have fb:w1.frozen? ⟨b,0,none⟩=false:=am h1.hb;have fc:w1.frozen? ⟨c,0,none⟩=false:=am h1.hc;rw [e1];clear hb hn h1 h e1
 generalize w.heap.size=q at *
 go_wp2_with fail
 go_region
 obtain ⟨wz,ez,hz,kz⟩:=HX.out;unfold aH at ez
 dsimp only [aB] at ez
 rw [ez];clear HX ez n0 n1 n2 n3 n4 n5 n6 n7 nl f0 f1 f2 f3 f4 f5 f6 f7 y0 y1 b0 c0 bl cl fb fc hab hac hbc hba hca hcb za zb zc z1
 go_wp2_with fail
 cases c₀
 simp_all [bodyPostS,results,Tryz.f109,go_sem]
theorem xP:cZ 111:=enters_of Tryz.func111 (by kernel_rfl) rfl
theorem qN {X:Sx}{W:World}(h:dM X 0 0 [] W) {E:List Ev}{code:Int}{k:Nat}(ha:gA (.live [] 0) X.l E code k) :
  Ra 110 #[pg X.g,.int .u8 1,fv 111 X.g] W fun e w'=>(code=0/\e=.returned (.tuple #[])/\E.length<=1000000000/\∃i,dM X i 0 E w')\/(code≠0/\e=.panicked (stop code k)/\Below X.w0.heap.size X.w0 w'):=by
 refine uT h (by simp) (by omega) 1 xP ?_;intro W1 h1;refine (xt h1).mono ?_;rintro e w' ⟨dz,hb,hp⟩;obtain ⟨t1,t2⟩:=Kk ha hb
 rcases hp with ⟨z,hi,rfl,hs⟩|⟨hlt,rfl,hbl⟩
 ·by_cases hc:code=0
  ·obtain ⟨_,_,E0,e1,e2⟩:=t1 hc;have hpp:=(yN (L:=aF X.l) rfl hb z).2;have hpl:dz.p.length=0+1:=by rw [hpp,KR];rfl
   have hE:E=nO X dz++[⟨3,1,aB⟩]:=by rw [e2];unfold nO;rw [e1];simp
   have hlen:=hs.len (by omega);refine .inl ⟨rfl,ps X.l dz.i,0,nO X dz,by rw [<-hpl];exact hs.sv,by omega,by omega,fun w2 h2=>.inl ⟨hc,rfl,by rw [hE,Or,ST];omega,_,by rw [hE];exact h2⟩⟩
  ·obtain ⟨a1,a2⟩:=t2 hc
   exfalso
   rcases a1 with a1|⟨_,_,a1⟩
   ·exact hc (a1.symm.trans z)
   ·omega
 ·refine .inr ⟨_,rfl,?_⟩
  by_cases hc:code=0
  ·obtain ⟨b1,b2,_⟩:=t1 hc;exact absurd (hlt b1) (by omega)
  ·obtain ⟨a1,a2⟩:=t2 hc
   have he:(if dz.e=0 then (120:Int) else dz.e)=code:=by
    rcases a1 with a1|⟨a1,a3,_⟩
    ·rw [a1,Eq hc]
    ·rw [IO a3,a1]
   exact .inr ⟨hc,by rw [he,a2],hbl⟩
theorem ub {O:Nat->Prop}{n:bO}{sv:Value}(h:TN O W n sv):∃p cap,sv=.slice p n.c.length cap/\n.c.length<=cap/\cap<=maxLen:=by
 cases n with
 |mk k d c=>
  rw [TN] at h;obtain ⟨vs,h1,_⟩:=h;exact h1.shape
structure O2 (W:World) (E:List Ev) (code:Int) (k:Nat) (e:Ending) (w':World):Prop where
 bel:Below W.heap.size W w'
 ex:∃(n:bO) (sv:Value) (at':Nat),e=.returned (.tuple #[dY n.k n.d sv,.int .i64 (if code=0 then (bo E).2 else code),.int .i64 (at':Int)])/\TN (fun j=>W.heap.size<=j) w' n sv/\(code=0->at'=0/\n=(bo E).1)/\(code≠0->n=.mk 0 aB []/\at'=k)
theorem kO {k:Int}{d:Tv}{s:Value}(h:Cz a b c (bv k d s) e i w):(w.cell? ⟨a,0,none⟩=some (.int .u8 k)/\w.cell? ⟨a,1,none⟩=some (.int .u8 d.k)/\w.cell? ⟨a,2,none⟩=some (.string d.t)/\w.cell? ⟨a,3,none⟩=some (.int .i64 d.a)/\w.cell? ⟨a,4,none⟩=some (.int .i64 d.l)/\w.cell? ⟨a,5,none⟩=some (.int .i64 d.c)/\w.cell? ⟨a,6,none⟩=some (.int .i64 d.f)/\w.cell? ⟨a,7,none⟩=some s)/\w.cell? ⟨b,0,none⟩=some (.int .i64 e)/\w.cell? ⟨c,0,none⟩=some (.int .i64 i):=⟨(aD h.ha).1,af h.hb rfl,af h.hc rfl⟩
theorem uH (hl:Lt W ao l) (hn:l.length<=4194304) {E:List Ev}{code:Int}{k:Nat}(ha:gA (.live [] 0) l E code k) (hc:code≠0) :
  Ra 61 #[.slice ao l.length cap] W (O2 W E code k):=by
 have hmf:=mkfn;obtain ⟨W3,e3⟩:∃W3,((W.alloc (bv 0 aB (.slice none 0 0))).alloc (.cells #[.int .i64 0] 32)).alloc (.cells #[.int .i64 0] 3)=W3:=⟨_,rfl⟩;have hz3:W3.heap.size=W.heap.size+1+1+1:=by rw [<-e3];simp [QL]
 have hb3:Below W.heap.size W W3:=by
  rw [<-e3];exact (((hH _ _).alloc (gt _) _).alloc (by simp [QL]) _).alloc (by simp [QL];omega) _
 have c3:Cz W.heap.size (W.heap.size+1) (W.heap.size+1+1) (bv 0 aB (.slice none 0 0)) 0 0 W3:=by
  rw [<-e3];refine ⟨aI (aI (au _ _) _) _,aI ?_ _,?_,by omega,by omega,by omega⟩
  ·have:=au (W.alloc (bv 0 aB (.slice none 0 0))) (.cells #[.int .i64 0] 32);rw [QL] at this;exact this
  ·have:=au ((W.alloc (bv 0 aB (.slice none 0 0))).alloc (.cells #[.int .i64 0] 32)) (.cells #[.int .i64 0] 3);rw [QL,QL] at this;exact this
 have hsv:dM ⟨W3,W3.heap.size,ao,cap,l⟩ 0 0 [] (W3.alloc (.cells #[.slice ao l.length cap,.int .i64 0,.int .i64 0,.slice none 0 0] 184)):=
  ⟨(hH _ _).alloc (gt _) _,hl.below hb3,gt _,hn,.slice none 0 0,au _ _,xn _,fun k e=>by cases e⟩
 have HN:Hid (Ra 110 #[pg W3.heap.size,.int .u8 1,fv 111 W3.heap.size] (W3.alloc (.cells #[.slice ao l.length cap,.int .i64 0,.int .i64 0,.slice none 0 0] 184)) fun e w'=>e=.panicked (stop code k)/\Below W3.heap.size W3 w'):=(qN (X:=⟨W3,W3.heap.size,ao,cap,l⟩) hsv ha).mono (fun e w' hx=>by
  rcases hx with ⟨h0,_⟩|⟨_,h1,h2⟩
  ·exact absurd h0 hc
  ·exact ⟨h1,h2⟩)
 have HC:Hid (∀w,Below W3.heap.size W3 w->CallsD Tryz.prog 109 #[pg W.heap.size,pg (W.heap.size+1),pg (W.heap.size+1+1)] (.panicking (stop code k)) w fun r u' w'=>r=.returned (.tuple #[])/\u'=.panicking [{ v:=.iface 180 (.agg #[.int .i64 code,.int .i64 (k:Int)]),recovered:=true }]/\Cz W.heap.size (W.heap.size+1) (W.heap.size+1+1) (bv 0 aB (.slice none 0 0)) code k w'/\Below W.heap.size W w'):=fun w hb=>(wn _ _ _ _ _ _ _ _ code k w (c3.below hb)).mono (fun r u' w' ⟨h1,h2,h3,h4⟩=>⟨h1,h2,h3,lH (hb3.trans (hb.mono hb3.size)) h4 (fun j hj=>by omega) (hb3.trans (hb.mono hb3.size)).size⟩)
 have HP:Hid (∀w',Below W.heap.size W w'->O2 W E code k (.returned (.tuple #[dY 0 aB (.slice none 0 0),.int .i64 code,.int .i64 (k:Int)])) w'):=fun w' hb=>⟨hb,.mk 0 aB [],.slice none 0 0,k,by rw [Eq hc];rfl,lk _ _ _ _,fun h=>absurd h hc,fun _=>⟨rfl,rfl⟩⟩
 clear hl ha hc hsv c3 hb3 hn hz3
 dsimp only [bv,aB] at e3
 go_enter_defers Tryz.func61,Tryz.ntmps61
 go_wp2_with fail
 refine HN.out.mono ?_;rintro e w5 ⟨rfl,hb5⟩;have HB5:=ai hb5;clear hb5 e3 HN
 go_wp2_with fail
 refine TO (f:=109) (args:=#[pg W.heap.size,pg (W.heap.size+1),pg (W.heap.size+1+1)]) (by simp) (by simp [go_sem]) ?_;refine (HC.out _ HB5.out).mono ?_;rintro e u' w6 ⟨rfl,rfl,h6,hb6⟩;obtain ⟨⟨n0,n1,n2,n3,n4,n5,n6,n7⟩,b0,c0⟩:=kO h6;have hp:=HP.out _ hb6;clear HC HB5 HP h6 hmf
 generalize hv:Ending.returned (.tuple #[dY 0 aB (.slice none 0 0),.int .i64 code,.int .i64 (k:Int)])=rv at hp
 dsimp only [dY,aB] at hv n1 n2 n3 n4 n5 n6
 simp [Leaves,settle,results,Tryz.f61,go_sem,n0,n1,n2,n3,n4,n5,n6,n7,b0,c0,hv];exact hp
theorem sd (hl:Lt W ao l) (hn:l.length<=4194304) {E:List Ev}{k:Nat}(ha:gA (.live [] 0) l E 0 k) :
  Ra 61 #[.slice ao l.length cap] W (O2 W E 0 k):=by
 have hmf:=mkfn;obtain ⟨W3,e3⟩:∃W3,((W.alloc (bv 0 aB (.slice none 0 0))).alloc (.cells #[.int .i64 0] 32)).alloc (.cells #[.int .i64 0] 3)=W3:=⟨_,rfl⟩;have hz3:W3.heap.size=W.heap.size+1+1+1:=by rw [<-e3];simp [QL]
 have hb3:Below W.heap.size W W3:=by
  rw [<-e3];exact (((hH _ _).alloc (gt _) _).alloc (by simp [QL]) _).alloc (by simp [QL];omega) _
 have c3:Cz W.heap.size (W.heap.size+1) (W.heap.size+1+1) (bv 0 aB (.slice none 0 0)) 0 0 W3:=by
  rw [<-e3];refine ⟨aI (aI (au _ _) _) _,aI ?_ _,?_,by omega,by omega,by omega⟩
  ·have:=au (W.alloc (bv 0 aB (.slice none 0 0))) (.cells #[.int .i64 0] 32);rw [QL] at this;exact this
  ·have:=au ((W.alloc (bv 0 aB (.slice none 0 0))).alloc (.cells #[.int .i64 0] 32)) (.cells #[.int .i64 0] 3);rw [QL,QL] at this;exact this
 have hsv:dM ⟨W3,W3.heap.size,ao,cap,l⟩ 0 0 [] (W3.alloc (.cells #[.slice ao l.length cap,.int .i64 0,.int .i64 0,.slice none 0 0] 184)):=
  ⟨(hH _ _).alloc (gt _) _,hl.below hb3,gt _,hn,.slice none 0 0,au _ _,xn _,fun k e=>by cases e⟩
 have HN:Hid (Ra 110 #[pg W3.heap.size,.int .u8 1,fv 111 W3.heap.size] (W3.alloc (.cells #[.slice ao l.length cap,.int .i64 0,.int .i64 0,.slice none 0 0] 184)) fun e w'=>e=.returned (.tuple #[])/\Below W3.heap.size W3 w'/\∃ao' cap',w'.cell? ⟨W3.heap.size,3,none⟩=some (.slice ao' E.length cap')/\W3.heap.size<w'.heap.size/\Le w' ao' E/\E.length<=cap'/\cap'<=maxLen/\E.length<=1000000000):=(qN (X:=⟨W3,W3.heap.size,ao,cap,l⟩) hsv ha).mono (fun e w' hx=>by
  rcases hx with ⟨_,h1,hlen,i,hs⟩|⟨h0,_⟩
  ·obtain ⟨ve,hb,hre,_⟩:=hs.ex;obtain ⟨ao',cap',rfl,hle,_,h3,h4⟩:=Le.row hre;exact ⟨h1,hs.bel,ao',cap',hb.cells.2.2.2,hb.lt,hle,h3,h4,hlen⟩
  ·exact absurd rfl h0)
 have HBd:Hid (∀w ao' cap',Le w ao' E->E.length<=cap'->cap'<=maxLen->E.length<=1000000000->Ra 112 #[.slice ao' E.length cap'] w fun x w'=>∃sv,x=.returned (.tuple #[dY (bo E).1.k (bo E).1.d sv,.int .i64 (bo E).2])/\TN (fun k=>w.heap.size<=k) w' (bo E).1 sv/\Below w.heap.size w w'):=fun w ao' cap' h1 h2 h3 h4=>Ck E w ao' cap' h1 h2 h3 h4
 obtain ⟨n,hn0⟩:∃n,(bo E).1=n:=⟨_,rfl⟩;obtain ⟨bc,hbc⟩:∃bc,(bo E).2=bc:=⟨_,rfl⟩;rw [hn0,hbc] at HBd
 have HC6:Hid (∀w5 w6 sv,Below W3.heap.size W3 w5->Below w5.heap.size w5 w6->TN (fun k=>w5.heap.size<=k) w6 n sv->Cz W.heap.size (W.heap.size+1) (W.heap.size+1+1) (bv 0 aB (.slice none 0 0)) 0 0 w6/\∃w7,(aH w6 W.heap.size n.k n.d sv).setCell ⟨W.heap.size+1,0,none⟩ (.int .i64 bc)=w7/\Cz W.heap.size (W.heap.size+1) (W.heap.size+1+1) (bv n.k n.d sv) bc 0 w7/\∃w8,(((aH w7 W.heap.size n.k n.d sv).setCell ⟨W.heap.size+1,0,none⟩ (.int .i64 bc)).setCell ⟨W.heap.size+1+1,0,none⟩ (.int .i64 0)).drew=w8/\Cz W.heap.size (W.heap.size+1) (W.heap.size+1+1) (bv n.k n.d sv) bc 0 w8/\∀w9,Below w8.heap.size w8 w9->Cz W.heap.size (W.heap.size+1) (W.heap.size+1+1) (bv n.k n.d sv) bc 0 w9/\O2 W E 0 k (.returned (.tuple #[dY n.k n.d sv,.int .i64 bc,.int .i64 0])) w9):=fun w5 w6 sv hb5 hb6 ht=>by
  have b6:Below W3.heap.size W3 w6:=hb5.trans (hb6.mono hb5.size);have c6:=c3.below b6;have k1:=ep w6 W.heap.size n.k n.d sv;have k2:=Kp.set (aH w6 W.heap.size n.k n.d sv) (W.heap.size+1) 0 (.int .i64 bc);have a1:=fS c6.ha n.k n.d sv
  have c7:Cz W.heap.size (W.heap.size+1) (W.heap.size+1+1) (bv n.k n.d sv) bc 0 ((aH w6 W.heap.size n.k n.d sv).setCell ⟨W.heap.size+1,0,none⟩ (.int .i64 bc)):=
   ⟨k2.blk a1 c6.ab,aj (k1.blk c6.hb (fun x=>c6.ab x.symm)) 0 _,k2.blk (k1.blk c6.hc (fun x=>c6.ac x.symm)) (fun x=>c6.bc x.symm),c6.ab,c6.ac,c6.bc⟩
  obtain ⟨c8,k8⟩:=c7.set n.k n.d sv bc 0;have hdr:∀v:World,Below v.heap.size v v.drew:=fun v=>(hH _ _).drew
  have K:Kp (fun j=>j=W.heap.size\/j=W.heap.size+1\/j=W.heap.size+1+1) w6 ((((aH ((aH w6 W.heap.size n.k n.d sv).setCell ⟨W.heap.size+1,0,none⟩ (.int .i64 bc)) W.heap.size n.k n.d sv).setCell ⟨W.heap.size+1,0,none⟩ (.int .i64 bc)).setCell ⟨W.heap.size+1+1,0,none⟩ (.int .i64 0)).drew):=(((k1.sub (fun j hj=>.inl hj)).trans (k2.sub (fun j hj=>.inr (.inl hj)))).trans k8).trans (Kp.of_below (hdr _));refine ⟨c6,_,rfl,c7,_,rfl,c8.below (hdr _),fun w9 hb9=>⟨(c8.below (hdr _)).below hb9,?_⟩⟩;have K9:=K.trans (Kp.of_below hb9);have B6:Below W.heap.size W w6:=hb3.trans (b6.mono hb3.size);refine ⟨lH B6 K9 (fun j hj=>by omega) B6.size,n,sv,0,?_,?_,fun _=>⟨rfl,hn0.symm⟩,fun h=>absurd rfl h⟩
  ·rw [IO rfl,hbc];rfl
  ·have h35:=hb5.size;have t9:=TN.kp K9 (fun j hj=>by omega) n sv ht;exact TN.sub (fun j _ hj=>by omega) n sv t9
 have HI:Hid (∀w,CallsD Tryz.prog 109 #[pg W.heap.size,pg (W.heap.size+1),pg (W.heap.size+1+1)] .returning w fun e u' w'=>e=.returned (.tuple #[])/\u'=.returning/\Below w.heap.size w w'):=fun w=>xZ _ _ _ w
 clear hl ha hsv c3 hb3 hn hz3 hn0 hbc
 dsimp only [bv,aB] at e3
 go_enter_defers Tryz.func61,Tryz.ntmps61
 go_wp2_with fail
 refine HN.out.mono ?_;rintro e w5 ⟨rfl,hb5,ao',cap',hcel,hgl,hle,hca,hcb,hlen⟩;have HB5:=ai hb5;have HL:=ai hle;clear hb5 e3 HN hle
 go_wp2_with fail
 refine (HBd.out w5 ao' cap' HL.out hca hcb hlen).mono ?_;rintro e w6 ⟨sv,rfl,ht,hb6⟩;obtain ⟨pv,cv,rfl,_⟩:=ub ht;obtain ⟨c6,w7,e7,c7,w8,e8,c8,H9⟩:=HC6.out w5 w6 _ HB5.out hb6 ht;have HQ:=ai H9;obtain ⟨⟨⟨n0,n1,n2,n3,n4,n5,n6,n7⟩,b0,c0⟩,f0,f1,f2,f3,f4,f5,f6,f7⟩:=And.intro (kO c6) (bC c6.ha);have fb:w6.frozen? ⟨W.heap.size+1,0,none⟩=false:=am c6.hb;have la:=aq c6.ha;have lb:=aq c6.hb;have hab:=c6.ab;have hac:=c6.ac;have hbc:=c6.bc;have hba:=c6.ab.symm;have hca2:=c6.ac.symm;have hcb2:=c6.bc.symm;have C7:=ai c7;have C8:=ai c8;have E8:=ai e8;clear c6 c7 c8 e8 H9 ht hb6 HC6 HBd hcel hgl HL HB5 hca hcb hlen
 generalize W.heap.size+1+1=c at *
 generalize W.heap.size+1=b at *
 generalize hgen:W.heap.size=a at *
 unfold aH at e7
 dsimp only [dY,aB] at n1 n2 n3 n4 n5 n6 ⊢
 go_wp2_with fail
 clear n0 n1 n2 n3 n4 n5 n6 n7 b0 c0 f0 f1 f2 f3 f4 f5 f6 f7 fb la lb;obtain ⟨⟨⟨n0,n1,n2,n3,n4,n5,n6,n7⟩,b0,c0⟩,f0,f1,f2,f3,f4,f5,f6,f7⟩:=And.intro (kO C7.out) (bC C7.out.ha);have fb:w7.frozen? ⟨b,0,none⟩=false:=am C7.out.hb;have fc:w7.frozen? ⟨c,0,none⟩=false:=am C7.out.hc;have la:=aq C7.out.ha;have lb:=aq C7.out.hb;have lc:=aq C7.out.hc
 go_region
 all_goals (
  have e8:=E8.out;unfold aH at e8
  try rw [e8]
  clear e8 n0 n1 n2 n3 n4 n5 n6 n7 b0 c0 f0 f1 f2 f3 f4 f5 f6 f7 fb fc la lb lc
  go_wp2_with fail
  refine TO (f:=109) (args:=#[pg a,pg b,pg c]) (by simp) (by simp [go_sem]) ?_;refine (HI.out _).mono ?_;rintro e u' w9 ⟨rfl,rfl,hb9⟩;obtain ⟨c9,hp⟩:=HQ.out w9 hb9;obtain ⟨⟨n0,n1,n2,n3,n4,n5,n6,n7⟩,b0,c0⟩:=kO c9;clear HQ HI C7 C8 E8 c9 hb9 hmf
  generalize hv:Ending.returned (.tuple #[dY n.k n.d (.slice pv n.c.length cv),.int .i64 bc,.int .i64 0])=rv at hp
  dsimp only [dY] at hv
  simp [Leaves,settle,results,Tryz.f61,go_sem,n0,n1,n2,n3,n4,n5,n6,n7,b0,c0,hv];exact hp)
theorem uI (hl:Lt W ao l) (hn:l.length<=4194304) {E:List Ev}{code:Int}{k:Nat}(ha:gA (.live [] 0) l E code k) :
  Ra 61 #[.slice ao l.length cap] W (O2 W E code k):=by
 by_cases hc:code=0
 ·subst hc;exact sd hl hn ha
 ·exact uH hl hn ha hc
def Ig (t:Tv):Nat->List It->Int->List Ev->Option (Nat × Ro)
 |0,_,_,_=>none
 |f+1,[],n,E=>some (0,.no)
 |f+1,i :: K,n,E=>match It.step t i with
  |.ref=>some (0,.no)
  |.tk=>some (0,.yes K n E)
  |.go d o r=>match Ig t f (r++K) (n+d) (E++o) with
   |some (k,R)=>some (k+1,R)
   |none=>none
theorem Dz :∀(f:Nat) (K:List It) (n:Int) (E:List Ev) (k:Nat) (R:Ro),Ig t f K n E=some (k,R)->Ru t k K n E R
 |0,_,_,_,_,_,h=>by cases h
 |f+1,[],n,E,k,R,h=>by cases h;exact .nil
 |f+1,i :: K,n,E,k,R,h=>by
  simp only [Ig] at h;cases hs:It.step t i with
  |ref=>rw [hs] at h;cases h;exact .ref hs
  |tk=>rw [hs] at h;cases h;exact .tk hs
  |go d o r=>
   rw [hs] at h;simp only at h;cases hr:Ig t f (r++K) (n+d) (E++o) with
   |none=>rw [hr] at h;cases h
   |some x=>
    obtain ⟨k',R'⟩:=x;rw [hr] at h;cases h;exact .go hs (Dz f _ _ _ _ _ hr)
def Iw (t:Tv):lW->Option (List Ev × Int × lW)
 |.live K n=>if (t.k == 7 || t.k == 8) then none else match Ig t 20 (beg K n) (gh n) (bK n) with
  |some (k,.yes L m E)=>if m<=1000 then some (E++[⟨2,0,t⟩],0,.live L m) else none
  |some (k,.no)=>some ([],120,.stuck 120 n)
  |none=>none
 |_=>none
theorem Dy :∀(f:Nat) (K:List It) (n:Int) (E:List Ev) (k:Nat) (R:Ro),Ig t f K n E=some (k,R)->k+1<=f
 |0,_,_,_,_,_,h=>by cases h
 |f+1,[],n,E,k,R,h=>by cases h;omega
 |f+1,i :: K,n,E,k,R,h=>by
  simp only [Ig] at h;cases hs:It.step t i with
  |ref=>rw [hs] at h;cases h;omega
  |tk=>rw [hs] at h;cases h;omega
  |go d o r=>
   rw [hs] at h;simp only at h;cases hr:Ig t f (r++K) (n+d) (E++o) with
   |none=>rw [hr] at h;cases h
   |some x=>
    obtain ⟨k',R'⟩:=x;rw [hr] at h;cases h;have:=Dy f _ _ _ _ _ hr;omega
theorem Iv {st:lW}{x:List Ev × Int × lW}(h:Iw t st=some x):jG t st x.1 x.2.1 x.2.2:=by
 cases st with
 |live K n=>
  simp only [Iw] at h
  split at h
  ·cases h
  ·rename_i hc
   have hc':(t.k == 7 || t.k == 8)=false:=by simpa using hc
   cases hr:Ig t 20 (beg K n) (gh n) (bK n) with
   |none=>rw [hr] at h;cases h
   |some y=>
    obtain ⟨k,R⟩:=y;have h1:=Dz _ _ _ _ _ _ hr;have h2:=Dy _ _ _ _ _ _ hr;rw [hr] at h;cases R with
    |no=>cases h;exact .no hc' h1 (by omega)
    |yes L m E=>
     simp only at h
     split at h
     ·cases h;exact .yes hc' h1 (by omega) (by assumption)
     ·cases h
 |stuck e n=>cases h
 |shut=>cases h
def yf:List Tv->lW->Option (List Ev × Int × Nat)
 |[],.live K n=>if K.length=1 then some ([⟨3,1,aB⟩],0,0) else some ([],121,0)
 |[],_=>none
 |t :: l,st=>match Iw t st with
  |some (ev,c,st')=>if c=0 then (match yf l st' with|some (E,c',k)=>some (ev++E,c',k+1)|none=>none) else some ([],c,0)
  |none=>none
theorem Am:∀(l:List Tv) (st:lW) (E:List Ev) (c:Int) (k:Nat),yf l st=some (E,c,k)->gA st l E c k
 |[],st,E,c,k,h=>by
  cases st with
  |live K n=>
   simp only [yf] at h
   split at h
   ·rename_i h1;cases h;exact .nil (.all h1)
   ·rename_i h1;cases h;exact .nil (.open h1)
  |stuck e n=>cases h
  |shut=>cases h
 |t :: l,st,E,c,k,h=>by
  simp only [yf] at h;cases hp:Iw t st with
  |none=>rw [hp] at h;cases h
  |some x=>
   obtain ⟨ev,c1,st'⟩:=x;have h1:=Iv hp;rw [hp] at h;simp only at h h1
   split at h
   ·rename_i hc
    subst hc;cases hr:yf l st' with
    |none=>rw [hr] at h;cases h
    |some y=>
     obtain ⟨E2,c2,k2⟩:=y;rw [hr] at h;cases h;exact .on h1 (Am l st' _ _ _ hr)
   ·rename_i hc
    cases h;exact .err h1 hc
theorem Bj {s s':List Int}{a b:List Ev}(h:cB s (a++b)=some s'):∃s1,cB s a=some s1:=by
 induction a generalizing s with
 |nil=>exact ⟨s,rfl⟩
 |cons e a ih=>
  simp only [cB,Rh] at h ⊢
  split
  ·rename_i h1;rw [IO h1] at h;exact ih h
  ·grind
mutual
def Pl:bO->Prop
 |.mk k d c=>if k=0 then c=[] else c≠[]/\d=aB/\qb c
def qb:List bO->Prop
 |[]=>True
 |n :: r=>Pl n/\qb r
end
theorem pA:∀(a b:List bO),qb a->qb b->qb (a++b)
 |[],b,_,h=>h
 |n :: r,b,h,h'=>by
  simp only [Rh,qb] at h ⊢;exact ⟨h.1,pA r b h.2 h'⟩
def FS (S:List (Int × List bO)):Prop:=∀x∈S,qb x.2/\x.1≠0
def rz (S:List (Int × List bO)):Prop:=∃k c S',S=(k,c) :: S'/\c≠[]
theorem pX:∀(c:List Ev) (S:List (Int × List bO)) (s':List Int),(∀e∈c,e.k=3)->cB (S.map (·.1)) c=some s'->s'≠[]->FS S->(c≠[]->rz S)->∃S',S'.map (·.1)=s'/\FS S'/\(c≠[]->rz S')/\(c=[]->S'=S)/\∀rest,fZ (c++rest) S=fZ rest S'
 |[],S,s',_,h,_,hF,hT=>by cases h;exact ⟨S,rfl,hF,(fun h=>absurd rfl h),fun _=>rfl,fun rest=>rfl⟩
 |e :: c,S,s',hc,h,hs,hF,hT=>by
  have h3:=hc e (QN ..);have h1:¬e.k=1:=by omega
  obtain ⟨k,kids,S1,rfl,hne⟩:=hT (by simp);simp only [Sg,cB,Eq h1,IO h3] at h
  split at h
  ·rename_i hk
   obtain ⟨k',c',S2,rfl⟩:∃k' c' S2,S1=(k',c') :: S2:=by
    cases S1 with
    |nil=>
     exfalso
     cases c with
     |nil=>simp [cB] at h;exact hs h
     |cons e2 c2=>
      have h3':=hc e2 (by simp);have h1':¬e2.k=1:=by omega
      simp [cB,h1',h3'] at h
    |cons x S2=>exact ⟨x.1,x.2,S2,rfl⟩
   have hk0:k≠0:=(hF (k,kids) (by simp)).2;have hful:Pl (.mk k aB kids):=by rw [Pl,Eq hk0];exact ⟨hne,rfl,(hF (k,kids) (by simp)).1⟩
   have hF2:FS ((k',c'++[.mk k aB kids]) :: S2):=by
    intro x hx
    rcases Rg.1 hx with rfl|hx
    ·have:=hF (k',c') (by simp);exact ⟨pA _ _ this.1 (by simp [qb,hful]),this.2⟩
    ·exact hF x (by simp [hx])
   have hT2:rz ((k',c'++[.mk k aB kids]) :: S2):=⟨k',_,S2,rfl,by simp⟩;obtain ⟨S',a1,a2,a3,a4,a5⟩:=pX c ((k',c'++[.mk k aB kids]) :: S2) s' (fun x hx=>hc x (QO _ hx)) (by simpa using h) hs hF2 (fun _=>hT2);refine ⟨S',a1,a2,fun _=>?_,(fun h=>by cases h),fun rest=>?_⟩
   ·by_cases hcn:c=[]
    ·rw [a4 hcn];exact hT2
    ·exact a3 hcn
   ·rw [Rh,<-a5 rest];simp only [fZ,Eq h1,IO h3,IO hk]
  ·cases h
theorem rq:∀(o:List Ev) (S:List (Int × List bO)) (s':List Int),(∀e∈o,e.k=1/\e.n≠0)->cB (S.map (·.1)) o=some s'->s'.length<=1000->FS S->∃S',S'.map (·.1)=s'/\FS S'/\S.length<=S'.length/\(∀rest,fZ (o++rest) S=fZ rest S')
 |[],S,s',_,h,_,hF=>by cases h;exact ⟨S,rfl,hF,gt _,fun rest=>rfl⟩
 |e :: o,S,s',hc,h,hs,hF=>by
  obtain ⟨h1,hn⟩:=hc e (QN ..);simp only [cB,IO h1] at h
  have hF2:FS ((e.n,[]) :: S):=by
   intro x hx
   rcases Rg.1 hx with rfl|hx
   ·exact ⟨trivial,hn⟩
   ·exact hF x hx
  obtain ⟨S',a1,a2,a3,a4⟩:=rq o ((e.n,[]) :: S) s' (fun x hx=>hc x (QO _ hx)) h hs hF2;have hl:S'.length<=1000:=by have:=Q0 List.length a1;rw [Ux] at this;omega
  simp only [List.length_cons] at a3;refine ⟨S',a1,a2,by omega,fun rest=>?_⟩;rw [Rh,<-a4 rest];simp only [fZ,IO h1];rw [Eq (by intro hh;rcases hh with hh|hh;exact hn hh;omega)]
theorem Ag {t:Tv}{S:List (Int × List bO)}(hS:S≠[]) (hF:FS S):∃S',S'.map (·.1)=S.map (·.1)/\FS S'/\rz S'/\∀rest,fZ ((if cm t then ⟨4,0,t⟩ else ⟨2,0,t⟩) :: rest) S=fZ rest S':=by
 cases S with
 |nil=>exact absurd rfl hS
 |cons x S1=>
  obtain ⟨k,c⟩:=x;refine ⟨(k,c++[.mk 0 t []]) :: S1,rfl,?_,⟨k,_,S1,rfl,by simp⟩,fun rest=>?_⟩
  ·intro x hx
   rcases Rg.1 hx with rfl|hx
   ·have:=hF (k,c) (by simp);exact ⟨pA _ _ this.1 (by simp [qb,Pl]),this.2⟩
   ·exact hF x (by simp [hx])
  ·cases hc:cm t <;> simp [fZ,hc]
theorem N7 {K:List It}{R:Ro}(h:Ru t k K n E R):∀{L:List It}{m:Int}{F:List Ev},R=.yes L m F->∀e∈F,e∈E\/(e.k=1->e.n≠0):=by
 induction h with
 |nil=>intro L m F h;cases h
 |ref _=>intro L m F h;cases h
 |tk hs=>intro L m F h e he;cases h;exact .inl he
 |go hs hr ih=>
  rename_i k i K n d E o r R
  intro L m F h e he
  rcases ih h e he with h1|h1
  ·rcases Q6.1 h1 with h2|h2
   ·exact .inl h2
   ·refine .inr (fun hk=>?_);cases i with
    |fl x=>
     cases x with
     |mt mm=>
      have hro:=gV t mm;simp only [It.step,Fl.step] at hs;cases hrow:M.row t mm with
      |ref=>rw [hrow] at hs;cases hs
      |ex r'=>rw [hrow] at hs;cases hs;cases h2
      |op nd r'=>
       rw [hrow] at hs hro;cases hs;simp at h2;subst h2;have:=hro.2.2.2.1;show nd≠0;omega
     |_=>simp only [It.step,Fl.step] at hs;split at hs <;> cases hs
    |lv nn=>cases hs;simp at h2;subst h2;cases hk
    |once p=>cases hs;cases h2
    |again p=>cases hs;cases h2
    |all r'=>cases hs;cases h2
  ·exact .inr h1
structure Tj (K:List It) (S:List (Int × List bO)):Prop where
 pa:S.map (·.1)=bJ K
 fs:FS S
 tn:rz S\/K=bY++[.lv 1]
theorem Be {m:Int}{F:List Ev}{L:List It}(h:Ru t k (bY++[.lv 1]) n E (.yes L m F)):F=E:=by
 cases h with
 |tk _=>rfl
 |go hs _=>
  simp only [It.step,Fl.step] at hs
  split at hs <;> cases hs
theorem D4:∀(o:List Ev) (s s':List Int),(∀e∈o,e.k=1/\e.n≠1)->cB s o=some s'->s'.getLast?=some 1->s≠[]
 |[],s,s',_,h,hl=>by cases h;intro e;subst e;cases hl
 |e :: o,s,s',ho,h,hl=>by
  obtain ⟨h1,h2⟩:=ho e (by simp);simp only [cB,IO h1] at h;intro es;subst es
  have key:∀(o:List Ev) (s s':List Int) (x:Int),(∀e∈o,e.k=1)->cB s o=some s'->s.getLast?=some x->s'.getLast?=some x:=by
   intro o
   induction o with
   |nil=>intro s s' x _ h hx;cases h;exact hx
   |cons e2 o ih=>
    intro s s' x ho h hx;simp only [cB,IO (ho e2 (by simp))] at h;refine ih (e2.n :: s) s' x (fun y hy=>ho y (by simp [hy])) h ?_;cases s with
    |nil=>cases hx
    |cons y s=>simpa using hx
  have:=key o [e.n] s' e.n (fun y hy=>(ho y (by simp [hy])).1) h rfl;rw [this] at hl;exact h2 (by simpa using hl)
theorem lj:∀(l:List Tv) (K:List It) (n:Int) (S:List (Int × List bO)) (E:List Ev) (k:Nat),fX (.live K n)->GR K->Tj K S->gA (.live K n) l E 0 k->∃c,fZ E S=some (.mk 1 aB c)/\c≠[]/\qb c
 |[],K,n,S,E,k,hg,hb,hj,h=>by
  obtain ⟨hc,rfl⟩:=h.end;cases hc with
  |all hh=>
   have hK:K=[.lv 1]:=by
    rcases hb with hb|⟨X,hX⟩
    ·exact hb
    ·rw [hX] at hh;simp at hh
   subst hK;have hp:=hj.pa
   rcases hj.tn with ⟨k0,c,S',rfl,hne⟩|ht
   ·simp [bJ] at hp;obtain ⟨rfl,rfl⟩:=hp;refine ⟨c,?_,hne,(hj.fs (1,c) (by simp)).1⟩;simp [fZ]
   ·cases ht
 |t :: l,K,n,S,E,k,hg,hb,hj,h=>by
  have hn:=gO hg hb;obtain ⟨b1,b2,b3⟩:=iV (K:=K) hn;obtain ⟨g1,g2,g3,g4,g5,gbot,gbn,gbe⟩:=cG hg
  have hSne:S≠[]:=by
   intro e;have:=hj.pa;rw [e] at this
   have h2:1<=(bJ K).length:=by
    rcases hb with rfl|⟨X,rfl⟩
    ·decide
    ·rw [bM];simp [bJ]
   rw [<-this] at h2;simp at h2
  rcases h.inv with ⟨ev,st',hp,hcd,rfl,rfl⟩|⟨ev,st',E2,k2,hp,hR2,rfl,rfl⟩
  ·exact absurd rfl hcd
  ·have hgs:=(dF hg hp).1;cases hp with
   |note hh=>
    rw [b1,b2] at hR2 hgs;obtain ⟨S',a1,a2,a3,a4⟩:=Ag (t:=t) hSne hj.fs;have hcm:cm t=true:=hh;rw [hcm] at a4;obtain ⟨c,c1,c2,c3⟩:=lj l K n S' E2 k2 hgs hb ⟨a1.trans hj.pa,a2,.inl a3⟩ hR2;refine ⟨c,?_,c2,c3⟩;rw [b3,Rr,List.singleton_append,<-c1];exact a4 E2
   |yes hh hR hk hm2=>
    rename_i L m2 E1 k1
    obtain ⟨c1,c2,c3,o,c4,c5,c6,c7⟩:=eu hR rfl g1 g2 g3;obtain ⟨cc,oo,d1,d2,d3⟩:=Du hR rfl g1;have hnz:=N7 hR rfl;have hL:=rT hR rfl (by rw [b1];exact hb);rw [b3,Rr] at c4 d1;obtain rfl:o=cc++oo:=c4.symm.trans d1;rw [b1] at c5 hR;rw [b3] at hR hnz;obtain ⟨s1,p1⟩:=Bj c5;have p2:cB s1 oo=some (bJ L):=by rw [<-c5,dG _ _ _ _ p1]
    have hlast:(bJ L).getLast?=some 1:=by
     rcases hL with rfl|⟨X,rfl⟩
     ·rfl
     ·rw [bM];simp [bJ]
    have hs1:=D4 oo s1 _ (fun e he=>⟨d3 e he,(c6 e (RX _ he)).2.2 (d3 e he)⟩) p2 hlast
    have htop:cc≠[]->rz S:=by
     intro hcc
     rcases hj.tn with ht|ht
     ·exact ht
     ·subst ht;have:=Be hR;rw [c4] at this;simp at this;exact absurd this.1 hcc
    obtain ⟨S1,e1,e2,e3,e4,e5⟩:=pX cc S s1 d2 (by rw [hj.pa];exact p1) hs1 hj.fs htop
    obtain ⟨S2,f1,f2,f3,f4⟩:=rq oo S1 (bJ L) (fun e he=>⟨d3 e he,by
     rcases hnz e (by rw [c4];exact RX _ he) with h1|h1
     ·cases h1
     ·exact h1 (d3 e he)⟩) (by rw [e1];exact p2) (by omega) e2
    have hS2:S2≠[]:=by
     intro e;rw [e] at f1;have f1':bJ L=[]:=f1.symm;rw [f1'] at hlast;cases hlast
    obtain ⟨S3,a1,a2,a3,a4⟩:=Ag (t:=t) hS2 f2;have hcm:cm t=false:=hh;rw [hcm] at a4;obtain ⟨c,x1,x2,x3⟩:=lj l L m2 S3 E2 k2 hgs hL ⟨a1.trans f1,a2,.inl a3⟩ hR2;refine ⟨c,?_,x2,x3⟩;rw [c4,QM,QM,e5,f4,<-x1];exact a4 E2
theorem Gs (h:gA (.live [] 0) l E 0 k):∃c,fZ E []=some (.mk 1 aB c)/\c≠[]/\qb c:=by
 by_cases hl:l=[]
 ·subst hl;obtain ⟨hc,rfl⟩:=h.end;cases hc with
  |all hh=>simp at hh
 ·obtain ⟨E1,h1,h2⟩:=lU h hl;obtain ⟨c,c1,c2,c3⟩:=lj l _ 1 [(1,[])] E1 k po iU ⟨rfl,(fun x hx=>by simp at hx;subst hx;exact ⟨trivial,by decide⟩),.inr rfl⟩ h1;refine ⟨c,?_,c2,c3⟩;rw [h2 rfl,<-c1];simp [fZ]
def O6 (st:lW):Prop:=st=.live [] 0\/∃K n,st=.live K n/\GR K/\n≠0
theorem Ip {st st':lW}(hg:fX st) (hi:O6 st) (hp:jG t st ev 0 st'):fX st'/\O6 st':=by
 have hg':=(dF hg hp).1;refine ⟨hg',?_⟩
 have hb:∀K n,st=.live K n->GR (beg K n):=by
  intro K n e
  rcases hi with hi|⟨K',n',hi,hb,hn⟩
  ·rw [hi] at e;cases e;exact iU
  ·rw [hi] at e;cases e;rw [(iV hn).1];exact hb
 cases hp with
 |stuck=>rcases hi with hi|⟨_,_,hi,_⟩ <;> cases hi
 |note hh=>
  have hb2:=hb _ _ rfl;exact .inr ⟨_,_,rfl,hb2,gO hg' hb2⟩
 |yes hh hR hk hm=>
  have hb2:=rT hR rfl (hb _ _ rfl);exact .inr ⟨_,_,rfl,hb2,gO hg' hb2⟩
theorem Jn:O6 (.live [] 0):=.inl rfl
theorem Ce {st:lW}{c:Int}(hi:O6 st) (h:wF st ev c):(c=0/\∃n,st=.live [.lv 1] n/\n≠0)\/c=121:=by
 rcases hi with rfl|⟨K,n,rfl,hb,hn⟩
 ·cases h with
  |all hh=>simp at hh
  | «open» hh=>exact .inr rfl
 ·cases h with
  |all hh=>
   refine .inl ⟨rfl,n,?_,hn⟩
   rcases hb with rfl|⟨X,rfl⟩
   ·rfl
   ·simp at hh
  | «open» hh=>exact .inr rfl
structure Pj (W:World) (E:List Ev) (code:Int) (a:Nat) (e:Ending) (w':World):Prop where
 bel:Below W.heap.size W w'
 ex:∃(n:bO) (p:Option Addr) (cv:Nat),e=.returned (.tuple #[dY n.k n.d (.slice p n.c.length cv),.int .i64 code,.int .i64 ((if code=0 then 0 else a:Nat):Int)])/\TN (fun j=>W.heap.size<=j) w' n (.slice p n.c.length cv)/\(code=0->fZ E []=some n)/\(code≠0->n=.mk 0 aB [])
theorem J8 {n:bO}(h:fZ E []=some n):bo E=(n,0):=by unfold bo;rw [h]
theorem sf (hl:Lt W ao l) (hn:l.length<=4194304) {E:List Ev}{code:Int}{a:Nat}(ha:gA (.live [] 0) l E code a) :
  Ra 61 #[.slice ao l.length cap] W (Pj W E code a):=by
 refine (uI hl hn ha).mono ?_;rintro e w' ⟨hb,n,sv,at',he,ht,h1,h2⟩;obtain ⟨p,cv,rfl,_⟩:=ub ht
 by_cases hc:code=0
 ·subst hc;obtain ⟨c,hbl,_⟩:=Gs ha;have h3:=J8 hbl;obtain ⟨rfl,rfl⟩:=h1 rfl;rw [h3] at he ht;exact ⟨hb,_,p,cv,he,ht,fun _=>hbl,fun h=>absurd rfl h⟩
 ·obtain ⟨rfl,rfl⟩:=h2 hc;rw [Eq hc] at he;exact ⟨hb,_,p,cv,by rw [Eq hc];exact he,ht,fun h=>absurd h hc,fun _=>rfl⟩
def ua (e:Ev):Option Tv:=if e.k=2\/e.k=4 then some e.d else none
def Pd (e:Ev):Prop:=zj e=e
theorem sA {e:Ev}(hk:e.k=1\/e.k=3) (hd:e.d=aB):Pd e/\ua e=none:=by
 obtain ⟨k,n,d⟩:=e;simp only at hk hd;subst hd;refine ⟨by simp [Pd,zj,hk],?_⟩;unfold ua;rw [Eq (by simp only;omega)]
theorem lO:∀(o:List Ev),(∀e∈o,ua e=none)->o.filterMap ua=[]
 |[],_=>rfl
 |e :: o,h=>by rw [List.filterMap_cons_none (h e (by simp))];exact lO o (fun x hx=>h x (by simp [hx]))
theorem ol:∀(l:List Tv) (K:List It) (n:Int) (E:List Ev) (k:Nat),fX (.live K n)->GR K->gA (.live K n) l E 0 k->E.filterMap ua=l/\∀e∈E,Pd e
 |[],K,n,E,k,hg,hb,h=>by
  obtain ⟨hc,rfl⟩:=h.end;cases hc with
  |all hh=>
   have:=sA (e:=⟨3,1,aB⟩) (.inr rfl) rfl;exact ⟨lO _ (fun e he=>by simp at he;subst he;exact this.2),fun e he=>by simp at he;subst he;exact this.1⟩
 |t :: l,K,n,E,k,hg,hb,h=>by
  have hn:=gO hg hb;obtain ⟨b1,b2,b3⟩:=iV (K:=K) hn;obtain ⟨g1,g2,g3,g4,g5,gbot,gbn,gbe⟩:=cG hg
  rcases h.inv with ⟨ev,st',hp,hcd,rfl,rfl⟩|⟨ev,st',E2,k2,hp,hR2,rfl,rfl⟩
  ·exact absurd rfl hcd
  ·have hgs:=(dF hg hp).1;cases hp with
   |note hh=>
    rw [b1,b2] at hR2 hgs;obtain ⟨a1,a2⟩:=ol l K n E2 k2 hgs hb hR2;rw [b3];refine ⟨by simp [ua,a1],fun e he=>?_⟩;simp at he
    rcases he with rfl|he
    ·rfl
    ·exact a2 e he
   |yes hh hR hk hm2=>
    rename_i L m2 E1 k1
    obtain ⟨c1,c2,c3,o,c4,c5,c6,c7⟩:=eu hR rfl g1 g2 g3;have hL:=rT hR rfl (by rw [b1];exact hb);obtain ⟨a1,a2⟩:=ol l L m2 E2 k2 hgs hL hR2;rw [c4,b3];have ho:=lO o (fun e he=>(sA (c6 e he).2.1 (c6 e he).1).2);refine ⟨by simp [ua,a1,ho],fun e he=>?_⟩;simp at he
    rcases he with he|rfl|he
    ·exact (sA (c6 e he).2.1 (c6 e he).1).1
    ·rfl
    ·exact a2 e he
theorem Gt (h:gA (.live [] 0) l E 0 k):E.filterMap ua=l/\E.map zj=E:=by
 have fin:∀E:List Ev,(∀e∈E,Pd e)->E.map zj=E:=by
  intro E
  induction E with
  |nil=>intro _;rfl
  |cons e E ih=>intro h;rw [Sg,h e (by simp),ih (fun x hx=>h x (by simp [hx]))]
 by_cases hl:l=[]
 ·subst hl;obtain ⟨hc,rfl⟩:=h.end;cases hc with
  |all hh=>simp at hh
 ·obtain ⟨E1,h1,h2⟩:=lU h hl;obtain ⟨a1,a2⟩:=ol l _ 1 E1 k po iU h1;have hm:=sA (e:=⟨1,1,aB⟩) (.inl rfl) rfl;rw [h2 rfl];exact ⟨by rw [List.filterMap_cons_none hm.2];exact a1,by rw [Sg,fin E1 a2,show zj ⟨1,1,aB⟩=⟨1,1,aB⟩ from hm.1]⟩
theorem Gx:∀{l:List Tv}{st:lW}{E:List Ev}{code:Int}{a:Nat},fX st->O6 st->gA st l E code a->code≠0->((code=121↔a=l.length)/\a<=l.length)
 |[],st,E,code,a,hg,hi,h,hc=>by
  obtain ⟨h1,rfl⟩:=h.end
  rcases Ce hi h1 with ⟨h2,_⟩|h2
  ·exact absurd h2 hc
  ·exact ⟨⟨fun _=>rfl,fun _=>h2⟩,gt _⟩
 |t :: l,st,E,code,a,hg,hi,h,hc=>by
  rcases h.inv with ⟨ev,st',hp,hcd,rfl,rfl⟩|⟨ev,st',E2,k2,hp,hR2,rfl,rfl⟩
  ·have:code≠121:=by
    rcases hi with rfl|⟨K,n,rfl,_⟩
    ·cases hp <;> simp_all
    ·cases hp <;> simp_all
   exact ⟨⟨fun h=>absurd h this,fun h=>by simp at h⟩,QK _⟩
  ·obtain ⟨h1,h2⟩:=Ip hg hi hp;obtain ⟨h3,h4⟩:=Gx h1 h2 hR2 hc;refine ⟨?_,by simp;omega⟩;rw [h3];simp
abbrev qq (c x y z:Int):Obj:=.cells #[.int .i64 c,.int .i64 x,.int .i64 y,.int .i64 z] 47
abbrev nL (g:Nat):Value:=.iface 45 (.pointer (some ⟨g,0,none⟩))
theorem q8 (x y z:Int) (W:World):Ra 8 #[.int .i64 0,.agg #[.int .i64 x,.int .i64 y,.int .i64 z]] W fun r w'=>r=.returned .nilIface/\Below W.heap.size W w':=by
 go_enter Tryz.func8,Tryz.ntmps8
 go_wp2_with fail
 go_ret
 exact ⟨rfl,(hH _ _).alloc (gt _) _⟩
theorem jt (c x y z:Int) (hc:c≠0) (W:World):Ra 8 #[.int .i64 c,.agg #[.int .i64 x,.int .i64 y,.int .i64 z]] W fun r w'=>∃g,r=.returned (nL g)/\w'.heap[g]?=some (qq c x y z)/\W.heap.size<=g/\Below W.heap.size W w':=by
 have q:(c == 0)=false:=by simpa using hc
 obtain ⟨W1,e1⟩:∃W1,W.alloc (.cells #[.int .i64 x,.int .i64 y,.int .i64 z] 34)=W1:=⟨_,rfl⟩;have HB:Hid (Rc W W1):=by rw [<-e1];exact (hH _ _).alloc (gt _) _
 have c0:W1.cell? ⟨W.heap.size,0,none⟩=some (.int .i64 x):=by rw [<-e1];exact af (au _ _) rfl
 have c1:W1.cell? ⟨W.heap.size,1,none⟩=some (.int .i64 y):=by rw [<-e1];exact af (au _ _) rfl
 have c2:W1.cell? ⟨W.heap.size,2,none⟩=some (.int .i64 z):=by rw [<-e1];exact af (au _ _) rfl
 go_enter Tryz.func8,Tryz.ntmps8
 go_wp2_with fail
 try rw [e1]
 clear e1
 go_wp2_with fail
 go_ret
 exact ⟨_,rfl,au _ _,HB.out.size,HB.out.alloc HB.out.size _⟩
theorem Bb {W V:World}{g:Nat}{k0:Int}{d0:Tv}{s0:Value}(h:V.heap[g]?=some (bv k0 d0 s0)) (hb:Below W.heap.size W V) (hg:W.heap.size<=g) (k:Int) (d:Tv) (s:Value):(aH V g k d s).heap[g]?=some (bv k d s)/\Below W.heap.size W (aH V g k d s)/\Kp (fun j=>j=g) V (aH V g k d s):=
 ⟨fS h k d s,Kp.low hb (ep V g k d s) (fun k e=>by subst e;exact hg) hb.size,ep V g k d s⟩
def Qv (W:World) (E:List Ev) (r:Ending) (w':World):Prop:=∃n p cv,r=.returned (.tuple #[dY n.k n.d (.slice p n.c.length cv),.nilIface])/\TN (fun j=>W.heap.size<=j) w' n (.slice p n.c.length cv)/\fZ E []=some n/\Below W.heap.size W w'
theorem pB (hl:Lt W ao l) (hn:l.length<=4194304) {E:List Ev}{a:Nat}(ha:gA (.live [] 0) l E 0 a) :
  Ra 25 #[.slice ao l.length cap] W (Qv W E):=by
 obtain ⟨W0,e0⟩:∃W0,W.alloc (bv 0 aB (.slice none 0 0))=W0:=⟨_,rfl⟩;have h0:Below W.heap.size W W0:=by rw [<-e0];exact (hH _ _).alloc (gt _) _
 have hz:W0.heap.size=W.heap.size+1:=by rw [<-e0];simp
 have hb0:W0.heap[W.heap.size]?=some (bv 0 aB (.slice none 0 0)):=by rw [<-e0];exact au _ _
 have HP:Hid (Ra 61 #[.slice ao l.length cap] W0 (Pj W0 E 0 a)):=sf (hl.below h0) hn ha;have H0:Hid (Below W.heap.size W W0/\W0.heap.size=W.heap.size+1/\W0.heap[W.heap.size]?=some (bv 0 aB (.slice none 0 0))):=⟨h0,hz,hb0⟩;obtain ⟨g,hg⟩:∃g,W.heap.size=g:=⟨_,rfl⟩
 dsimp only [bv,aB] at e0
 clear hl hn ha h0 hz hb0
 go_enter Tryz.func25,Tryz.ntmps25
 go_wp2_with fail
 try rw [e0]
 try rw [hg]
 clear e0;refine HP.out.mono ?_;rintro e w4 ⟨hb4,n,p,cv,rfl,ht,hn0,hn1⟩;obtain ⟨V4,eV4⟩:∃V4,w4.alloc (bv n.k n.d (.slice p n.c.length cv))=V4:=⟨_,rfl⟩;obtain ⟨g4,hg4⟩:∃g4,w4.heap.size=g4:=⟨_,rfl⟩
 have H4:Hid (Below W0.heap.size W0 V4/\V4.heap[g4]?=some (bv n.k n.d (.slice p n.c.length cv))/\TN (fun j=>W0.heap.size<=j) V4 n (.slice p n.c.length cv)/\V4.heap[g]?=some (bv 0 aB (.slice none 0 0))/\fZ E []=some n):=by
  have hx:Below w4.heap.size w4 V4:=by rw [<-eV4];exact (hH _ _).alloc (gt _) _
  have hy:Below W0.heap.size W0 V4:=hb4.trans (hx.mono hb4.size);exact ⟨hy,by rw [<-eV4,<-hg4];exact au _ _,TN.kp (Kp.of_below (S:=fun _=>False) hx) (fun _ _ h=>h) n _ ht,ag (by rw [<-hg];exact H0.out.2.2) hy,hn0 rfl⟩
 dsimp only [bv] at eV4
 obtain ⟨⟨c0,c1,c2,c3,c4,c5,c6,c7⟩,cl⟩:=aD H4.out.2.1;obtain ⟨⟨r0,r1,r2,r3,r4,r5,r6,r7⟩,rl⟩:=aD H4.out.2.2.2.1;obtain ⟨f0,f1,f2,f3,f4,f5,f6,f7⟩:=bC H4.out.2.2.2.1;clear hb4 ht hn0 hn1 HP
 go_wp2_with fail
 try rw [eV4]
 try rw [hg4]
 clear eV4 hg4
 go_wp2_with fail
 have h9:=Bb (W:=W) (g:=g) H4.out.2.2.2.1 (H0.out.1.trans (H4.out.1.mono H0.out.1.size)) (by omega) n.k n.d (.slice p n.c.length cv);obtain ⟨w9,e9⟩:∃w9,aH V4 g n.k n.d (.slice p n.c.length cv)=w9:=⟨_,rfl⟩;rw [e9] at h9
 dsimp only [aH] at e9
 rw [e9];obtain ⟨⟨x0,x1,x2,x3,x4,x5,x6,x7⟩,xl⟩:=aD h9.1;refine QV (v:=.tuple #[dY n.k n.d (.slice p n.c.length cv),.nilIface]) (by simp [results,Tryz.f25,go_sem,x0,x1,x2,x3,x4,x5,x6,x7]) rfl ?_;refine ⟨n,p,cv,rfl,TN.sub (O:=fun j=>W0.heap.size<=j) (fun k _ h=>?_) n _ (TN.kp h9.2.2 (fun k h e=>?_) n _ H4.out.2.2.1),H4.out.2.2.2.2,h9.2.1⟩
 ·have:=H0.out.2.1;show W.heap.size<=k;have h':W0.heap.size<=k:=h;omega
 ·have:=H0.out.2.1;have h':W0.heap.size<=k:=h;have e':k=g:=e;omega
end Go.Proofs.YtjiepkenkcgkhaaGreatDoor
