import Derived.Test.YtpdlohfdjiaegaaGreatDoorM44
set_option linter.unusedVariables false
set_option linter.unusedSimpArgs false
set_option maxHeartbeats 1000000
namespace Go.Proofs.YtpdlohfdjiaegaaGreatDoor
open Go.RowKit
variable {W w W':World}{g:Nat}{K:List It}{n:Int}{vs:Value}{st:Pst}
theorem pS (h:Lz K n) {k:Nat}(hk:k<=(beg K n).length+20):Bd k (beg K n) (cu n) (aT n):=by
 have h1:=h.lv;have h2:=h.sn;have h3:=h.sk
 by_cases h0:n=0
 ·subst h0;have hl:(beg K 0).length=K.length+6:=by simp [beg,et]
  have e:lvs (beg K 0)=1 :: lvs K:=by simp [beg,et,lvs]
  have hlv:(lvs K).length=0:=by omega
  refine ⟨?_,?_,?_,by omega,by simp [aT];omega⟩
  ·refine dy ?_ (e5 trivial h.wf);intro i hi;simp [et] at hi
   rcases hi with rfl|rfl|rfl|rfl|rfl <;> trivial
  ·rw [e];simp [cu,hlv]
  ·rw [e];simp;omega
 ·have h0':(n == 0)=false:=by simpa using h0
  have e1:beg K n=K:=by simp [beg,h0]
  have e2:cu n=n:=by simp [cu,h0]
  have e3:aT n=[]:=by simp [aT,h0]
  rw [e1] at hk ⊢;rw [e2,e3];exact ⟨h.wf,h1,by omega,by omega,by simp;omega⟩
theorem uK {D:Nat->Prop}{vt:Value}(hG:aq g D vs vt W w (cu n) (beg K n) (aT n)) (hz:Lz K n) {t:Tv}{ev:List Ev}{code:Int}{st:Pst}(hp:fB t (.live K n) ev code st) :
  Da 55 #[pt g,t.v] w fun e w'=>e=.returned (.int .i64 code)/\((code=0/\∃L m,st=.live L m/\aq g D vs vt W w' m L ev)\/(code≠0/\st=.stuck code n/\ev=[]/\∃m L E,aq g D vs vt W w' m L E)):=by
 obtain ⟨D1,vs1,vt1,p1,k1,ns1,nt1,d1,d2⟩:=hG;have up:∀{w' m L E},aq g D1 vs1 vt1 w w' m L E->aq g D vs vt W w' m L E:=fun h=>aq.go k1 ns1 nt1 d1 d2 h
 cases hp with
 |note h7=>
  refine (vq p1 t h7 (by unfold aT;split <;> simp)).mono ?_;rintro e w' ⟨rfl,h⟩;exact ⟨rfl,.inl ⟨rfl,_,_,rfl,up h⟩⟩
 |no h7 hR hk=>
  rw [Bool.or_eq_false_iff] at h7;refine (ig p1 t h7.1 h7.2 hR (pS hz hk)).mono ?_;rintro e w' ⟨rfl,m,L,E,h⟩;exact ⟨rfl,.inr ⟨by decide,rfl,rfl,m,L,E,up h⟩⟩
 |deep h7 hR hk hm=>
  rw [Bool.or_eq_false_iff] at h7;refine (ig p1 t h7.1 h7.2 hR (pS hz hk)).mono ?_;intro e w' h;obtain ⟨rfl,m,L,E,h2⟩:=h.1 hm;exact ⟨rfl,.inr ⟨by decide,rfl,rfl,m,L,E,up h2⟩⟩
 |yes h7 hR hk hm=>
  rw [Bool.or_eq_false_iff] at h7;refine (ig p1 t h7.1 h7.2 hR (pS hz hk)).mono ?_;intro e w' h;obtain ⟨rfl,h2⟩:=h.2 hm;exact ⟨rfl,.inl ⟨rfl,_,_,rfl,up h2⟩⟩
theorem uN {S:Nat->Prop}{D:Nat->Prop}(h:Lv1 S W g K n D vs) (hl:∀k,S k->k<W.heap.size) (hz:Lz K n) {t:Tv}{ev:List Ev}{code:Int}{st:Pst}(hp:fB t (.live K n) ev code st) :
  Da 30 #[pt g,t.v] W fun r w'=>∃v,r=.returned (.tuple #[v,.int .i64 code])/\Pa S g W w' v ev st:=by
 obtain ⟨V,hV⟩:∃V,W.alloc (.cells #[.int .u8 t.k,.string t.t,.int .i64 t.a,.int .i64 t.l,.int .i64 t.c,.int .i64 t.f] 37)=V:=⟨_,rfl⟩;have hb:Below W.heap.size W V:=by rw [<-hV];exact cz W t
 have hT:Tb V W.heap.size t:=by rw [<-hV];exact am _ _
 have pV:=h.ps.below' hb;have HV:Hid (W.alloc (.cells #[.int .u8 t.k,.string t.t,.int .i64 t.a,.int .i64 t.l,.int .i64 t.c,.int .i64 t.f] 37)=V):=hV;have HR:Hid (Da 53 #[pt g] V fun r w'=>r=.returned (.int .i64 0)/\w'=V):=d8 pV.pb;have HRd:Hid (∀w,aq g D vs aJ W w (cu n) (beg K n) (aT n)->Da 55 #[pt g,.agg #[.int .u8 t.k,.string t.t,.int .i64 t.a,.int .i64 t.l,.int .i64 t.c,.int .i64 t.f]] w fun e w'=>e=.returned (.int .i64 code)/\((code=0/\∃L m,st=.live L m/\aq g D vs aJ W w' m L ev)\/(code≠0/\st=.stuck code n/\ev=[]/\∃m L E,aq g D vs aJ W w' m L E))):=fun w hw=>uK hw hz hp
 have HTold:Hid (∀w L m,aq g D vs aJ W w m L ev->∃vs' vt',PB w g false 0 m vs' vt'/\Pa S g W (w.setCell ⟨g,4,none⟩ aJ) vt' ev (.live L m)):=fun w L m hG=>yj h hl hG
 have HErr:Hid (∀w L m E,aq g D vs aJ W w m L E->(∃vs' vt',PB w g false 0 m vs' vt')/\PB (((((w.setCell ⟨g,0,none⟩ (.bool false)).setCell ⟨g,1,none⟩ (.int .i64 code)).setCell ⟨g,2,none⟩ (.int .i64 n)).setCell ⟨g,3,none⟩ aJ).setCell ⟨g,4,none⟩ aJ) g false code n aJ aJ/\Pa S g W ((((((w.setCell ⟨g,0,none⟩ (.bool false)).setCell ⟨g,1,none⟩ (.int .i64 code)).setCell ⟨g,2,none⟩ (.int .i64 n)).setCell ⟨g,3,none⟩ aJ).setCell ⟨g,4,none⟩ aJ).setCell ⟨g,4,none⟩ aJ) aJ [] (.stuck code n)):=fun w L m E hG=>AR h hG code n
 obtain ⟨c0,c1,c2,c3,c4⟩:=pV.pb.cells;have HG0:Hid (aq g D vs aJ W V n K []/\Tb V W.heap.size t/\Ps g D V n K [] vs aJ):=⟨h.ps.quiet hb,hT,pV⟩
 have HPr:Hid (n=0->Da 54 #[pt g] V fun e w'=>e=.returned (.int .i64 1)/\aq g D vs aJ W w' (cu n) (beg K n) (aT n)/\Tb w' W.heap.size t):=fun h0=>by
  subst h0;have hz2:=hz.sk;refine (o0 (g:=g) (D:=D) (W:=V) (n:=0) (K:=K) (E:=[]) (vs:=vs) (vt:=aJ) ⟨pV,by omega,by omega,by omega,by simp⟩).mono ?_;rintro e w' ⟨rfl,hG⟩;refine ⟨rfl,aq.go (Kp.of_below hb) (Nb.refl _ _) (Nb.refl _ _) (fun _ h=>h) (fun _ h=>.inl h) hG,?_⟩;obtain ⟨_,_,_,_,k5,_⟩:=hG;exact hT.kp pV k5
 have hnn:0<=n:=by have:=hz.lv;omega
 clear h hl hz hp hV hb pV
 dsimp only [Tv.v]
 by_cases h0:n=0
 ·have q0:(n == 0)=true:=by simpa using h0
  have HP0:Hid (Da 54 #[pt g] V fun e w'=>e=.returned (.int .i64 1)/\aq g D vs aJ W w' (cu n) (beg K n) (aT n)/\Tb w' W.heap.size t):=HPr.out h0
  generalize cu n=n1 at *
  generalize beg K n=K1 at *
  generalize aT n=E1 at *
  clear HPr h0
  go_enter Tryz.func30,Tryz.ntmps30
  go_wp2_with fail
  rw [HV.out];refine HR.out.mono ?_;rintro r w1 ⟨rfl,rfl⟩
  go_wp2_with fail
  refine HP0.out.mono ?_;rintro r w3 ⟨rfl,hG3,hT3⟩;obtain ⟨m0,m1,m2,m3,m4,m5⟩:=hT3.cells;have HG3:Hid (aq g D vs aJ W w3 n1 K1 E1):=hG3;clear hG3 hT3
  go_wp2_with fail
  refine (HRd.out _ HG3.out).mono ?_;rintro r w2 ⟨rfl,h2⟩
  rcases h2 with ⟨rfl,L,m,rfl,hG2⟩|⟨hne,rfl,rfl,m,L,E2,hG2⟩
  ·obtain ⟨vs',vt',pb2,hP⟩:=HTold.out _ _ _ hG2;obtain ⟨x0,x1,x2,x3,x4⟩:=pb2.cells;have f4:=pb2.frozen 4;have HX:Hid (Pa S g W (w2.setCell ⟨g,4,none⟩ aJ) vt' ev (.live L m)):=hP;obtain ⟨pv,cv,hvt,_⟩:=hP.re.shape;subst hvt;clear hP pb2 hG2
   go_wp2_with fail
   refine bodyPost_ret (v:=.tuple #[.slice pv ev.length cv,.int .i64 0]) (by simp [results,Tryz.f30,go_sem]) rfl ?_;exact ⟨_,rfl,HX.out⟩
  ·obtain ⟨⟨vs',vt',pb2⟩,pb3,hP⟩:=HErr.out _ _ _ _ hG2;obtain ⟨x0,x1,x2,x3,x4⟩:=pb2.cells;obtain ⟨y0,y1,y2,y3,y4⟩:=pb3.cells;have f0:=pb2.frozen 0;have f1:=pb2.frozen 1;have f2:=pb2.frozen 2;have f3:=pb2.frozen 3;have f4:=pb2.frozen 4;have g4:=pb3.frozen 4;have HX:=hid hP;have q5:(code != 0)=true:=by simpa using hne
   clear hP pb2 pb3 hG2 hne
   go_wp2_with fail
   refine bodyPost_ret (v:=.tuple #[aJ,.int .i64 code]) (by simp [results,Tryz.f30,go_sem]) rfl ?_;exact ⟨_,rfl,HX.out⟩
 ·have q0:(n == 0)=false:=by simpa using h0
  have e1:beg K n=K:=by simp [beg,h0]
  have e2:cu n=n:=by simp [cu,h0]
  have e3:aT n=[]:=by simp [aT,h0]
  rw [e1,e2,e3] at HRd;clear e1 e2 e3 HPr h0;obtain ⟨m0,m1,m2,m3,m4,m5⟩:=hT.cells
  go_enter Tryz.func30,Tryz.ntmps30
  go_wp2_with fail
  rw [HV.out];refine HR.out.mono ?_;rintro r w1 ⟨rfl,rfl⟩
  go_wp2_with fail
  refine (HRd.out _ HG0.out.1).mono ?_;rintro r w2 ⟨rfl,h2⟩
  rcases h2 with ⟨rfl,L,m,rfl,hG2⟩|⟨hne,rfl,rfl,m,L,E2,hG2⟩
  ·obtain ⟨vs',vt',pb2,hP⟩:=HTold.out _ _ _ hG2;obtain ⟨x0,x1,x2,x3,x4⟩:=pb2.cells;have f4:=pb2.frozen 4;have HX:Hid (Pa S g W (w2.setCell ⟨g,4,none⟩ aJ) vt' ev (.live L m)):=hP;obtain ⟨pv,cv,hvt,_⟩:=hP.re.shape;subst hvt;clear hP pb2 hG2
   go_wp2_with fail
   refine bodyPost_ret (v:=.tuple #[.slice pv ev.length cv,.int .i64 0]) (by simp [results,Tryz.f30,go_sem]) rfl ?_;exact ⟨_,rfl,HX.out⟩
  ·obtain ⟨⟨vs',vt',pb2⟩,pb3,hP⟩:=HErr.out _ _ _ _ hG2;obtain ⟨x0,x1,x2,x3,x4⟩:=pb2.cells;obtain ⟨y0,y1,y2,y3,y4⟩:=pb3.cells;have f0:=pb2.frozen 0;have f1:=pb2.frozen 1;have f2:=pb2.frozen 2;have f3:=pb2.frozen 3;have f4:=pb2.frozen 4;have g4:=pb3.frozen 4;have HX:=hid hP;have q5:(code != 0)=true:=by simpa using hne
   clear hP pb2 pb3 hG2 hne
   go_wp2_with fail
   refine bodyPost_ret (v:=.tuple #[aJ,.int .i64 code]) (by simp [results,Tryz.f30,go_sem]) rfl ?_;exact ⟨_,rfl,HX.out⟩
theorem uy (u:FrameMode) {W:World}{g:Nat}{c:Bool}{e n:Int}{vs vt:Value}(h:PB W g c e n vs vt):CallsD Tryz.prog 56 #[pt g] u W fun r u' w'=>u'=u/\(r=.returned (.tuple #[])/\PB w' g true 0 0 aJ aJ/\Kp (fun k=>k=g) W w'):=by
 obtain ⟨c0,c1,c2,c3,c4⟩:=h.cells;have f0:=h.frozen 0;have f1:=h.frozen 1;have f2:=h.frozen 2;have f3:=h.frozen 3;have f4:=h.frozen 4
 have HX:Hid (PB (((((W.setCell ⟨g,0,none⟩ (.bool true)).setCell ⟨g,1,none⟩ (.int .i64 0)).setCell ⟨g,2,none⟩ (.int .i64 0)).setCell ⟨g,3,none⟩ aJ).setCell ⟨g,4,none⟩ aJ) g true 0 0 aJ aJ/\Kp (fun k=>k=g) W (((((W.setCell ⟨g,0,none⟩ (.bool true)).setCell ⟨g,1,none⟩ (.int .i64 0)).setCell ⟨g,2,none⟩ (.int .i64 0)).setCell ⟨g,3,none⟩ aJ).setCell ⟨g,4,none⟩ aJ)):=
  ⟨af (af (af (af (af h 0 _) 1 _) 2 _) 3 _) 4 _,(((((Kp.set W g 0 _).trans (Kp.set _ g 1 _)).trans (Kp.set _ g 2 _)).trans (Kp.set _ g 3 _)).trans (Kp.set _ g 4 _))⟩
 clear h
 go_enter_d Tryz.func56,Tryz.ntmps56
 go_wp2_with fail
 go_end0
 exact ⟨rfl,HX.out⟩
theorem kS {S:Nat->Prop}{W:World}{g:Nat}{c:Bool}{e n:Int}{vs vt:Value}(h:PB W g c e n vs vt) (hS:S g) (hc:(if c then 4 else e)≠0) :
  Da 31 #[pt g] W fun r w'=>r=.returned (.tuple #[aJ,.int .i64 (if c then 4 else e)])/\Pa S g W w' aJ [] .shut:=by
 obtain ⟨z,hz⟩:∃z:Int,(if c then 4 else e)=z:=⟨_,rfl⟩
 have HR:Hid (Da 53 #[pt g] W fun r w'=>r=.returned (.int .i64 z)/\w'=W):=by
  have:=d8 h;rw [hz] at this;exact this
 rw [hz] at hc ⊢;have hz1:(z != 0)=true:=by simpa using hc
 have HD:Hid (CallsD Tryz.prog 56 #[pt g] .returning W fun r u' w'=>u'=.returning/\(r=.returned (.tuple #[])/\PB w' g true 0 0 aJ aJ/\Kp (fun k=>k=g) W w')):=uy .returning h;have HS:Hid (∀w',PB w' g true 0 0 aJ aJ->Kp (fun k=>k=g) W w'->Pa S g W w' aJ [] .shut):=fun w' hp hk=>lH ⟨hp,hS⟩ (hk.sub (fun k e=>by rw [e];exact hS))
 clear h hz hc hS
 go_enter_defers Tryz.func31,Tryz.ntmps31
 go_wp2_with (go_at_call 53;refine HR.out.mono ?_;rintro r w1 ⟨rfl,hw⟩;subst hw)
 refine leaves_cons (f:=56) (args:=#[pt g]) (by simp) (by simp [go_sem]) ?_;refine HD.out.mono ?_;rintro r u' w2 ⟨rfl,rfl,hp,hk⟩;exact ⟨_,(by simp [results,Tryz.f31,go_sem]),rfl,HS.out _ hp hk⟩
theorem AJ (W:World) (d:Ev):Re (W.alloc (.cells #[.int .u8 d.k,.int .u8 d.n,.int .u8 d.d.k,.string d.d.t,.int .i64 d.d.a,.int .i64 d.d.l,.int .i64 d.d.c,.int .i64 d.d.f] 39)) (.slice (some ⟨W.heap.size,0,none⟩) 1 1) [d]:=by
 refine ⟨rfl,.inr ⟨_,1,_,rfl,Nat.zero_le _,am W _,Nat.le_refl _,by unfold maxLen;omega,rfl,?_⟩⟩;simp [ecs,aW,Ev.cs]
theorem pM {S:Nat->Prop}{D:Nat->Prop}(h:Lv1 S W g K n D vs) (hl:∀k,S k->k<W.heap.size) (hK:K.length<=1000000) {ev:List Ev}{code:Int}(hp:mI (.live K n) ev code) :
  Da 31 #[pt g] W fun r w'=>∃v,r=.returned (.tuple #[v,.int .i64 code])/\Pa S g W w' v ev .shut:=by
 have HR:Hid (Da 53 #[pt g] W fun r w'=>r=.returned (.int .i64 0)/\w'=W):=d8 h.ps.pb;obtain ⟨xs,r1,r2⟩:=h.ps.st;have hxl:xs.length=K.length:=by rw [r2.len,List.length_reverse]
 obtain ⟨pp,cp,rfl,_⟩:=r1.shape;obtain ⟨c0,c1,c2,c3,c4⟩:=h.ps.pb.cells;have HD:Hid (∀V,Below W.heap.size W V->CallsD Tryz.prog 56 #[pt g] .returning V fun r u' w'=>u'=.returning/\(r=.returned (.tuple #[])/\PB w' g true 0 0 aJ aJ/\Kp (fun k=>k=g) V w')):=fun V hb=>uy .returning (h.ps.pb.below hb)
 have hS:=h.sg;have HS:Hid (∀w',PB w' g true 0 0 aJ aJ->Kp (fun k=>k=g) W w'->Pa S g W w' aJ [] .shut):=fun w' hp hk=>lH ⟨hp,hS⟩ (hk.sub (fun k e=>by rw [e];exact hS))
 have HT:Hid (∀w',PB w' g true 0 0 aJ aJ->Kp (fun k=>k=g) (W.alloc (.cells #[.int .u8 3,.int .u8 1,.int .u8 0,.string ⟨#[]⟩,.int .i64 0,.int .i64 0,.int .i64 0,.int .i64 0] 39)) w'->Pa S g W w' (.slice (some ⟨W.heap.size,0,none⟩) 1 1) [⟨3,1,tv0⟩] .shut):=fun w' hp hk=>by
  have hg:=h.ps.pb.lt;refine ⟨(AJ W ⟨3,1,tv0⟩).kp hk (fun k e=>?_),⟨S,⟨hp,hS⟩,fun _ h=>h,fun _ h=>.inl h,fun k e=>?_⟩,((Kp.of_below (ai W _)).step hk (fun k _ e=>by rw [e];exact hS))⟩
  ·cases e;show ¬W.heap.size=g;omega
  ·cases e;exact ⟨Nat.le_refl _,fun h=>absurd (hl _ h) (Nat.lt_irrefl _)⟩
 have HB:Hid (∀o,Below W.heap.size W (W.alloc o)):=fun o=>ai W o
 have hgl:=h.ps.pb.lt;have HL:Hid (xs.length=K.length/\K.length<=1000000):=⟨hxl,hK⟩;clear h hl hS r1 r2 hxl hK;cases hp with
 |all h1=>
  have q1:((xs.length:Int) != 1)=false:=by rw [HL.out.1,h1];rfl
  clear h1
  go_enter_defers Tryz.func31,Tryz.ntmps31
  go_wp2_with (go_at_call 53;refine HR.out.mono ?_;rintro r w1 ⟨rfl,hw⟩;subst hw)
  refine leaves_cons (f:=56) (args:=#[pt g]) (by simp) (by simp [go_sem]) ?_;refine (HD.out _ (HB.out _)).mono ?_;rintro r u' w2 ⟨rfl,rfl,hp,hk⟩;exact ⟨_,(by simp [results,Tryz.f31,go_sem]),_,rfl,HT.out _ hp hk⟩
 | «open» h1=>
  have q1:((xs.length:Int) != 1)=true:=by rw [HL.out.1];simp;omega
  clear h1
  go_enter_defers Tryz.func31,Tryz.ntmps31
  go_wp2_with (go_at_call 53;refine HR.out.mono ?_;rintro r w1 ⟨rfl,hw⟩;subst hw)
  refine leaves_cons (f:=56) (args:=#[pt g]) (by simp) (by simp [go_sem]) ?_;refine (HD.out _ (Below.refl _ _)).mono ?_;rintro r u' w2 ⟨rfl,rfl,hp,hk⟩;exact ⟨_,(by simp [results,Tryz.f31,go_sem]),_,rfl,HS.out _ hp hk⟩
theorem ng {S:Nat->Prop}(h:Pq S W g st) (hl:∀k,S k->k<W.heap.size) (hz:st.ok) {t:Tv}{ev:List Ev}{code:Int}{st':Pst}(hp:fB t st ev code st') :
  Da 30 #[pt g,t.v] W fun r w'=>∃v,r=.returned (.tuple #[v,.int .i64 code])/\Pa S g W w' v ev st':=by
 cases st with
 |live K n=>obtain ⟨D,vs,h⟩:=h;exact uN h hl hz hp
 |stuck e n=>
  obtain ⟨rfl,rfl,rfl⟩:ev=[]/\code=e/\st'=.stuck e n:=by cases hp;exact ⟨rfl,rfl,rfl⟩
  refine (qu (st:=.stuck code n) h hl t (c:=false) (e:=code) (n:=n) h.1 hz).mono ?_;rintro r w' ⟨rfl,hP⟩;exact ⟨_,rfl,hP⟩
 |shut=>
  cases hp;refine (qu (st:=.shut) h hl t (c:=true) (e:=0) (n:=0) h.1 (by decide)).mono ?_;rintro r w' ⟨rfl,hP⟩;exact ⟨_,rfl,hP⟩
theorem tF {S:Nat->Prop}(h:Pq S W g st) (hl:∀k,S k->k<W.heap.size) (hz:st.ok) {ev:List Ev}{code:Int}(hp:mI st ev code) :
  Da 31 #[pt g] W fun r w'=>∃v,r=.returned (.tuple #[v,.int .i64 code])/\Pa S g W w' v ev .shut:=by
 cases st with
 |live K n=>obtain ⟨D,vs,h⟩:=h;exact pM h hl (by have:=hz.sk;omega) hp
 |stuck e n=>
  obtain ⟨rfl,rfl⟩:ev=[]/\code=e:=by cases hp;exact ⟨rfl,rfl⟩
  refine (kS (c:=false) (e:=code) h.1 h.2 hz).mono ?_;rintro r w' ⟨rfl,hP⟩;exact ⟨_,rfl,hP⟩
 |shut=>
  cases hp;refine (kS (c:=true) (e:=0) h.1 h.2 (by decide)).mono ?_;rintro r w' ⟨rfl,hP⟩;exact ⟨_,rfl,hP⟩
theorem pe (W:World):Da 29 #[] W fun r w'=>r=.returned (pt W.heap.size)/\Pq (fun k=>k=W.heap.size) w' W.heap.size (.live [] 0)/\Below W.heap.size W w'/\w'.heap.size=W.heap.size+1:=by
 refine (lP W).mono ?_;rintro r w' ⟨rfl,rfl⟩;refine ⟨rfl,⟨fun _=>False,aJ,⟨am _ _,⟨[],AB _,.nil⟩,lA _,(fun h=>h),(fun k e=>by cases e),(fun k e=>by cases e),(fun k h=>False.elim h)⟩,rfl,(fun k e=>by cases e),(fun k h=>False.elim h)⟩,ai _ _,by rw [World.size_alloc]⟩
theorem vI {S:Nat->Prop}{B:Nat}(h:Below B w W) (hk:Kp S W W') (hS:∀k,S k->B<=k) (hB:B<=W.heap.size):Below B w W':=
 ⟨hk.os.trans h.os,hk.tape.trans h.tape,hk.output.trans h.output,Nat.le_trans h.size hk.size,fun k hlt=>(hk.block k (by omega) (fun hs=>by have:=hS k hs;omega)).trans (h.block k hlt)⟩
structure PAI (w:World) (g:Nat) (v:Value) (E:List Ev) (st:Pst) (S:Nat->Prop) (W:World):Prop where
 bel:Below w.heap.size w W
 pq:Pq S W g st
 gd:eU st
 sB:∀k,S k->w.heap.size<=k/\k<W.heap.size
 re:Re W v E
 vB:∀k,v.ownBlock=some k->w.heap.size<=k/\¬S k
structure PAJ (w:World) (g:Nat) (v x:Value) (E ev:List Ev) (st:Pst) (W:World):Prop where
 rv:Re W v E
 rx:Re W x ev
 fin:∀v' w',Re w' v' (E++ev)->Kp (fun k=>v.ownBlock=some k) W w'->Nb W v v'->∃S,PAI w g v' (E++ev) st S w'
 ex:∃S,PAI w g v E st S W
theorem PAI.call {v:Value}{E:List Ev}{S:Nat->Prop}(h:PAI w g v E st S W) {x:Value}{ev:List Ev}{st':Pst}(hp:Pa S g W W' x ev st') (hg:eU st'):PAJ w g v x E ev st' W':=by
 obtain ⟨S',p1,p2,p3,p4⟩:=hp.ex;have hb:Below w.heap.size w W':=vI h.bel hp.kp (fun k hk=>(h.sB k hk).1) h.bel.size
 have hs':∀k,S' k->w.heap.size<=k/\k<W'.heap.size:=by
  intro k hk
  rcases p3 k hk with a|a
  ·exact ⟨(h.sB k a).1,Nat.lt_of_lt_of_le (h.sB k a).2 hp.kp.size⟩
  ·exact ⟨Nat.le_trans h.bel.size a.1,a.2⟩
 have hv:Re W' v E:=h.re.kp hp.kp (fun k e=>(h.vB k e).2)
 have hvS:∀k,v.ownBlock=some k->w.heap.size<=k/\¬S' k:=by
  intro k e;refine ⟨(h.vB k e).1,fun hs=>?_⟩
  rcases p3 k hs with a|a
  ·exact (h.vB k e).2 a
  ·have:=h.re.lt k e;omega
 refine ⟨hv,hp.re,fun v' w' hr hk hn=>⟨S',?_⟩,S',hb,p1,hg,hs',hv,hvS⟩;refine ⟨vI hb hk (fun k e=>(h.vB k e).1) hb.size,p1.kp hk (fun k hs e=>(hvS k e).2 hs),hg,fun k hs=>⟨(hs' k hs).1,Nat.lt_of_lt_of_le (hs' k hs).2 hk.size⟩,hr,?_⟩;intro k e
 rcases hn with e1|⟨q,e1,hq⟩
 ·exact hvS k (by rw [<-e1];exact e)
 ·rw [e1] at e;simp at e;subst e;exact ⟨Nat.le_trans hb.size hq,fun hs=>by have:=(hs' _ hs).2;omega⟩
theorem Lt.cell6 {ao:Option Addr}{l:List Tv}(h:Lt W ao l) {j:Nat}{d:Tv}(hj:l[j]?=some d):∃b off,ao=some ⟨b,off,none⟩/\W.cell? ⟨b,off+j*6,none⟩=some (.int .u8 d.k)/\W.cell? ⟨b,off+j*6+1,none⟩=some (.string d.t)/\W.cell? ⟨b,off+j*6+2,none⟩=some (.int .i64 d.a)/\W.cell? ⟨b,off+j*6+3,none⟩=some (.int .i64 d.l)/\W.cell? ⟨b,off+j*6+4,none⟩=some (.int .i64 d.c)/\W.cell? ⟨b,off+j*6+5,none⟩=some (.int .i64 d.f):=h j d hj
theorem rz {ops:Array Oper}{rest:List Oper}{o:Oper}{a:Act}{Q:Exit->Act->World->Prop}(hgd:o.guard=none) (s x:Operand)
  (ho:o.op=.call { callee:=.builtin .append,args:=#[s,x],argTypes:=#[44,44] }) (v vx:Value) (l ds:List Ev) (hs:a.eval s=v) (hr:Re W v l)
  (hx:a.eval x=vx) (hrx:Re W vx ds) (hl:l.length+ds.length<=1000000000000)
  (h:∀v' w',Re w' v' (l++ds)->Kp (fun k=>v.ownBlock=some k) W w'->Nb W v v'->wpList Tryz.prog ops Q rest (a.put o.dst v') w'):wpList Tryz.prog ops Q (o :: rest) a W:=by
 have hc:=fun g (hg:vx.ownBlock=some g)=>World.ownsRow.cells hrx hg
 obtain ⟨i0,hi,hz0,hz1,hz2⟩:=info_parts Tryz.info39
 rcases hrx.2 with ⟨rfl,h0⟩|⟨g,cap,cur,rfl,_⟩
 ·obtain rfl:ds=[]:=List.eq_nil_of_length_eq_zero h0;refine wpList_append_own_none (P:=Tryz.prog) (w:=W) hgd s x 44 ho 0 39 i0 8 Tryz.underlying44 hi v _ _ hs hr hx ?_;exact h v W (by rw [List.append_nil];exact hr) (Kp.refl _ _) (.inl rfl)
 ·refine wpList_append_own_at (P:=Tryz.prog) (w:=W) hgd s x 44 ho 0 39 i0 _ 8 64 Tryz.underlying44 hi hz0 hz1 hz2 rfl (by decide) v _ _ hs hr ⟨g,0,none⟩ ds.length cap (ecs ds) hx (ri ds) (hc g rfl) (rf _) (by unfold maxLen;omega) (by omega) (Nat.zero_le _) ?_;intro v' w' h1 h2 _ h4;refine h v' w' ?_ ((Kp.of_grown h2).sub (fun k e=>e.symm)) ?_
  ·unfold Re;rw [List.length_append,rj];exact h1
  ·rcases h4 with h4|h4
   ·exact .inl h4
   ·exact .inr ⟨_,h4,Nat.le_refl _⟩
end Go.Proofs.YtpdlohfdjiaegaaGreatDoor
