import Derived.Laws.EntriesVeiled
import Derived.Test.YtcmbkeghnmgbfaaGreatDoorM33
set_option linter.all false
set_option maxHeartbeats 1000000
namespace Go.Proofs.YtcmbkeghnmgbfaaGreatDoor
open Go.Proofs.Tryz
open Go.RowKit
variable {g lo:Nat}{W W' V:World}{n:Int}{K:List It}{E:List Ev}{vs vt v:Value}
theorem DL {D:Nat->Prop}(h:Ps g D W n K E vs vt) (v:Value) (x:It) (G:jG g D W v x) :
  Ps g (Dn D W.heap.size (W.alloc (.cells #[v] 184)).heap.size) (W.alloc (.cells #[v] 184)) n K E vs vt/\yV g (Dn D W.heap.size (W.alloc (.cells #[v] 184)).heap.size) (W.alloc (.cells #[v] 184)) (some ⟨W.heap.size,0,none⟩) [v] [x]:=by
 have F:Below W.heap.size W (W.alloc (.cells #[v] 184)):=(gt _ _).alloc (ge _) _;refine⟨h.fresh F,fun j s u=>?_,.cons (G.turn (fun _ h=>.inl h) (fun k o _ I=>af I F)) .nil,?_⟩
 ·obtain⟨rfl,rfl⟩:j=0/\s=v:=by
   cases j with
   |zero=>simp at u;exact⟨rfl,u.symm⟩
   |succ j=>simp at u
  exact⟨G.isFn,_,_,rfl,aa (am W _) rfl⟩
 ·intro a H;cases H;exact .inr ⟨ge _,by rw[Eq];exact M9 _⟩
theorem D5 {D:Nat->Prop}(h:Ps g D W n K E vs vt) (u:Int) (ao:Option Addr) (xs:List Value) (m cap:Nat) (r:List It) (hm:xs.length=m) (hr:yV g D W ao xs r) (hx:xs.length<=1000) (ag:0<=n) (hn:n<=100000000) (hK:K.length<=10000000) (hE:E.length<=1000000000) :
  Kb 92 #[pt g,.int .u8 u,.slice ao m cap] W fun e w'=>e=.returned (.int .i64 1)/\ay g D vs vt W w' (n+1) (r++.lv u :: K) (E++[⟨1,u,cD⟩]):=by
 have af:=mkfn;have HT:=ku (nP h ⟨1,u,cD⟩ hE);have HR:Hid (yV g D W ao xs r/\Ps g D W n K E vs vt):=⟨hr,h⟩;have HB:Hid (xs.length<=1000/\K.length<=10000000/\xs.length=m):=⟨hx,hK,hm⟩;clear h hr hE hx hK hm
 go_enter func92,ntmps92
 go_wp2_with fail
 refine HT.out.mono ?_;rintro e F⟨rfl,⟨I,p1,G⟩,k1⟩;have hw:IntKind.i64.wrap (n+1)=n+1:=by rw[Ki];omega
 obtain⟨c0,c1,c2,c3,c4⟩:=p1.pb.cells;have f2:=p1.pb.frozen 2;have H1:Hid (Ps g D F n K (E++[⟨1,u,cD⟩]) vs I/\Nb W vt I/\Kp (fun k=>k=g\/vt.ownBlock=some k) W F):=⟨p1,G,k1⟩;clear p1 G k1
 go_wp2_with fail
 have p2:=H1.out.1.nodes (n+1);obtain⟨p3,r3⟩:=DL p2 (IX g u) (.lv u) (.lv u);have hsz:(F.setCell ⟨g,2,none⟩ (.int .i64 (n+1))).heap.size=F.heap.size:=by show(F.heap.modify g _).size=_;rw[LK]
 rw[hsz]at r3 p3
 have k2:Kp (fun k=>k=g\/vs.ownBlock=some k\/vt.ownBlock=some k) W ((F.setCell ⟨g,2,none⟩ (.int .i64 (n+1))).alloc (.cells #[IX g u] 184)):=
  ((H1.out.2.2.sub (fun k h=>h.elim .inl (fun h=>.inr (.inr h)))).step (Kp.set F g 2 (.int .i64 (n+1))) (fun k _ e=>.inl e)).alloc _
 obtain⟨H,J⟩:∃H,(F.setCell ⟨g,2,none⟩ (.int .i64 (n+1))).alloc (.cells #[IX g u] 184)=H:=⟨_,rfl⟩;have ab:H.heap.size=F.heap.size+1:=by rw[<-J,Eq,hsz]
 rw[J]at p3 r3 k2;have HX:=ku (jA p3 _ [IX g u] 1 1 [.lv u] rfl r3 (by show 1<=1000000;decide) (by have:=HB.out.2.1;omega));have H3:Hid (Kp (fun k=>k=g\/vs.ownBlock=some k\/vt.ownBlock=some k) W H/\H.heap.size=F.heap.size+1):=⟨k2,ab⟩;rw[J];clear p2 p3 r3 k2 ab J hsz c0 c1 c2 c3 c4 f2 hw;refine HX.out.mono ?_;rintro e O⟨rfl,⟨M,p4,ac⟩,k4⟩;have k5:Kp (fun k=>k=g\/vs.ownBlock=some k\/vt.ownBlock=some k) W O:=H3.out.1.step k4 (fun k _ h=>h.elim .inl (fun h=>.inr (.inl h)))
 have r5:yV g (Dn D F.heap.size H.heap.size) O ao xs r:=by
  have hr:=HR.out.1
  have hD:∀k o,D k->W.heap[k]?=some o->O.heap[k]?=some o:=fun k o hk ho=>k5.blk ho (by
   rintro(e|e|e)
   ·exact HR.out.2.dg (e ▸ hk)
   ·exact HR.out.2.ds k e hk
   ·exact HR.out.2.dt k e hk)
  have r1:=hr.turn hD;exact⟨r1.lv,r1.al.mono (fun v x hx=>hx.turn (fun _ h=>.inl h) (fun _ _ _ h=>h)),fun a ha=>.inl (r1.da a ha)⟩
 have HY:=ku (jA p4 ao xs m cap r HB.out.2.2 r5 (by have:=HB.out.1;omega) (by have:=HB.out.2.1;simp;omega));have H4:Hid (Kp (fun k=>k=g\/vs.ownBlock=some k\/vt.ownBlock=some k) W O/\Nb H vs M):=⟨k5,ac⟩;clear p4 ac k4 k5 r5 HX
 go_wp2_with fail
 refine HY.out.mono ?_;rintro e w6⟨rfl,⟨ae,p6,ad⟩,k6⟩;have aa:=H3.out.1.size;have G:=H1.out.2.1;have n4:Nb W vs M:=(Nb.refl W vs).trans H4.out.2 aa
 have HG:Hid (ay g D vs vt W w6 (n+1) (r++.lv u :: K) (E++[⟨1,u,cD⟩])):=
  ⟨_,ae,I,p6,H4.out.1.step k6 (fun k hk h=>qN n4 G k hk (h.elim .inl (fun h=>.inr (.inl h)))),n4.trans ad H4.out.1.size,G,fun k h=>.inl h,fun k h=>h.imp id (fun h=>Kh H1.out.2.2.size h.1)⟩
 clear p6 ad k6 n4 G aa
 go_wp2_with fail
 go_ret
 exact⟨rfl,HG.out⟩
theorem AW {D:Nat->Prop}(h:Ps g D W n K E vs vt) (u:Int) (t:Tv) (ac:0<=n) (hn:n<=100000000) (hE:E.length<=1000000000) :
  Kb 136 #[.agg #[pt g,.int .u8 u],t.v] W fun e w'=>e=.returned (.int .i64 1)/\ay g D vs vt W w' (n-1) K (E++[⟨3,u,cD⟩]):=by
 obtain⟨W1,G⟩:∃W1,(W.alloc (.cells #[pt g,.int .u8 u] 231)).alloc (.cells #[.int .u8 t.k,.string t.t,.int .i64 t.a,.int .i64 t.l,.int .i64 t.c,.int .i64 t.f] 76)=W1:=⟨_,rfl⟩;have M:Below W.heap.size W W1:=by rw[<-G];exact((gt _ _).alloc (ge _) _).alloc (by rw[Eq];exact Of _) _
 have H:W1.heap[W.heap.size]?=some (.cells #[pt g,.int .u8 u] 231 (0,0)):=by rw[<-G];exact bB (am _ _) _
 have p1:=h.fresh M;have HT:=ku (nP p1 ⟨3,u,cD⟩ hE)
 have J:Hid (Kc W W1/\W1.heap[W.heap.size]?=some (.cells #[pt g,.int .u8 u] 231 (0,0))/\(∀k,k=g\/vt.ownBlock=some k->k≠W.heap.size)):=⟨M,H,by
  rintro k (e|e)
  ·have:=h.pb.lt;omega
  ·have:=h.ev.lt k e;omega⟩
 have c0:W1.cell? ⟨W.heap.size,0,none⟩=some (pt g):=aa H rfl;have c1:W1.cell? ⟨W.heap.size,1,none⟩=some (.int .u8 u):=aa H rfl;have HE:=ku G;clear h hE M H p1 G c0 c1
 dsimp only[Tv.v]
 go_enter func136,ntmps136
 go_wp2_with fail
 rw[HE.out];refine HT.out.mono ?_;rintro e w2⟨rfl,⟨ab,I,F⟩,O⟩;have hw:IntKind.i64.wrap (n-1)=n-1:=by rw[Ki];omega
 obtain⟨c0,c1,c2,c3,c4⟩:=I.pb.cells;have f2:=I.pb.frozen 2;have d0:w2.cell? ⟨W.heap.size,0,none⟩=some (pt g):=aa (O.blk J.out.2.1 (fun h=>J.out.2.2 _ h rfl)) rfl
 have HG:Hid (ay g D vs vt W (w2.setCell ⟨g,2,none⟩ (.int .i64 (n-1))) (n-1) K (E++[⟨3,u,cD⟩])):=by
  refine ay.fresh J.out.1 ⟨_,vs,ab,I.nodes (n-1),(O.sub (fun k h=>h.elim .inl (fun h=>.inr (.inr h)))).step (Kp.set w2 g 2 _) (fun k _ e=>.inl e),Nb.refl _ _,F,fun _ h=>h,fun _ h=>.inl h⟩
 clear I F O
 go_wp2_with fail
 go_ret
 exact⟨rfl,HG.out⟩
def J2 (lo:Nat) (W:World) (k:Nat):Prop:=lo<=k/\k<W.heap.size
abbrev RF (g lo:Nat) (W:World) (v:Value) (x:Fl):Prop:=lX g (J2 lo W) W v x
abbrev RI (g lo:Nat) (W:World) (v:Value) (x:It):Prop:=jG g (J2 lo W) W v x
theorem RF.up {x:Fl}(h:RF g lo W v x) (u:Below W.heap.size W W'):RF g lo W' v x:=h.turn (fun k F=>⟨F.1,Kl F.2 u.size⟩) (fun k o _ G=>af G u)
theorem RI.up {x:It}(h:RI g lo W v x) (u:Below W.heap.size W W'):RI g lo W' v x:=h.turn (fun k F=>⟨F.1,Kl F.2 u.size⟩) (fun k o _ G=>af G u)
theorem vj (W:World) (u:List ByteArray) (cs:Array Value) (h:cs=(u.map Value.string).toArray):Ls (W.alloc (.cells cs 9)) (some ⟨W.heap.size,0,none⟩) u:=by
 subst h;intro j s F;refine⟨_,_,rfl,?_⟩;rw[Km];exact aa (am W _) (by simp[F])
theorem aq (W:World) (o:Obj):Below W.heap.size W (W.alloc o):=(gt _ _).alloc (ge _) _
theorem br (g lo:Nat) (W:World) (u:List ByteArray) (cs:Array Value) (n b:Nat) (M:W.heap.size=b) (F:cs=(u.map Value.string).toArray) (J:u.length=n) (H:u.length<=1000) (G:lo<=W.heap.size) :
  Kb 93 #[.slice (some ⟨b,0,none⟩) n n] (W.alloc (.cells cs 9)) fun r w'=>∃c,r=.returned (aF 2 (.slice (some ⟨c,0,none⟩) n n))/\RF g lo w' (aF 2 (.slice (some ⟨c,0,none⟩) n n)) (.wd 2 u)/\Below W.heap.size W w':=by
 subst J M;refine(Eo _ _ _ _ _ rfl).mono ?_;rintro r w'⟨rfl,rfl⟩;exact⟨_,rfl,.wd (vj W u cs F) (fun a I=>by cases I;exact⟨G,by rw[Eq];exact M9 _⟩) H,aq _ _⟩
theorem aI (g lo:Nat) (W:World) (u:List ByteArray) (cs:Array Value) (n b:Nat) (M:W.heap.size=b) (F:cs=(u.map Value.string).toArray) (J:u.length=n) (H:u.length<=1000) (G:lo<=W.heap.size) :
  Kb 95 #[.slice (some ⟨b,0,none⟩) n n] (W.alloc (.cells cs 9)) fun r w'=>∃c,r=.returned (aF 6 (.slice (some ⟨c,0,none⟩) n n))/\RF g lo w' (aF 6 (.slice (some ⟨c,0,none⟩) n n)) (.wd 6 u)/\Below W.heap.size W w':=by
 subst J M;refine(zM _ _ _ _ _ rfl).mono ?_;rintro r w'⟨rfl,rfl⟩;exact⟨_,rfl,.wd (vj W u cs F) (fun a I=>by cases I;exact⟨G,by rw[Eq];exact M9 _⟩) H,aq _ _⟩
theorem nG (g:Nat) (p:Option Addr) (n c:Nat) (W:World) :
  Kb 242 #[pt g,.slice p n c] W fun r w'=>r=.returned (eS (W.heap.size+1) (W.heap.size+1+1))/\w'=((W.alloc (.cells #[pt g] 50)).alloc (.cells #[.slice p n c] 123)).alloc (.cells #[yU W.heap.size (W.heap.size+1)] 183):=by
 have u:=mkfn
 go_enter func242,ntmps242
 go_wp2_with fail
 go_ret
 exact⟨rfl,rfl⟩
theorem AN (g:Nat) (p:Option Addr) (n c:Nat) (W:World) :
  Kb 180 #[pt g,.slice p n c] W fun r w'=>r=.returned (io g (eS (W.heap.size+1) (W.heap.size+1+1)))/\w'=((W.alloc (.cells #[pt g] 50)).alloc (.cells #[.slice p n c] 123)).alloc (.cells #[yU W.heap.size (W.heap.size+1)] 183):=by
 have u:=mkfn
 go_enter func180,ntmps180
 go_wp2_with(go_at_call 242;refine(nG _ _ _ _ _).mono ?_;rintro r F⟨rfl,rfl⟩)
 go_ret
 exact⟨rfl,rfl⟩
theorem xy (g:Nat) (p:Option Addr) (n c:Nat) (W:World) :
  Kb 238 #[pt g,.slice p n c] W fun r w'=>r=.returned (km g (eS (W.heap.size+1) (W.heap.size+1+1)))/\w'=((W.alloc (.cells #[pt g] 50)).alloc (.cells #[.slice p n c] 123)).alloc (.cells #[yU W.heap.size (W.heap.size+1)] 183):=by
 have u:=mkfn
 go_enter func238,ntmps238
 go_wp2_with(go_at_call 242;refine(nG _ _ _ _ _).mono ?_;rintro r F⟨rfl,rfl⟩)
 go_ret
 exact⟨rfl,rfl⟩
theorem xx (g f:Nat) (W:World) :
  Kb 281 #[pt g,cO g f] W fun r w'=>r=.returned (km g (EL W.heap.size))/\w'=W.alloc (.cells #[cO g f] 184):=by
 have u:=mkfn
 go_enter func281,ntmps281
 go_wp2_with fail
 go_ret
 exact⟨rfl,rfl⟩
theorem qj (xs:List Value) (r:List Fl) (hd:∃k ts H,r=Fl.wd k ts :: H) (hl:r.length<=1000) (h:Al (RF g lo W) xs r) (M:lo<=W.heap.size) (V W':World) (I:W.alloc (.cells xs.toArray 184)=V)
  (u:((V.alloc (.cells #[pt g] 50)).alloc (.cells #[.slice (some ⟨W.heap.size,0,none⟩) xs.length xs.length] 123)).alloc (.cells #[yU V.heap.size (V.heap.size+1)] 183)=W') :
  jb g (J2 lo W') W' (eS (V.heap.size+1) (V.heap.size+1+1)) (.row r)/\Below W.heap.size W W':=by
 have ab:V.heap.size=W.heap.size+1:=by rw[<-I,Eq]
 have ac:W'.heap.size=V.heap.size+3:=by rw[<-u];simp only[Eq]
 have F:Below W.heap.size W V:=by rw[<-I];exact aq _ _
 have G:Below V.heap.size V W':=by
  rw[<-u];exact((aq _ _).alloc (by rw[Eq];exact Of _) _).alloc (by simp only[Eq];omega) _
 have O:Below W.heap.size W W':=F.trans (G.mono F.size);have x3:W'.heap[V.heap.size]?=some (.cells #[pt g] 50 (0,0)):=by rw[<-u];exact bB (bB (am _ _) _) _
 have x1:W'.heap[V.heap.size+1]?=some (.cells #[.slice (some ⟨W.heap.size,0,none⟩) xs.length xs.length] 123 (0,0)):=by
  rw[<-u];have:=am (V.alloc (.cells #[pt g] 50)) (.cells #[.slice (some ⟨W.heap.size,0,none⟩) xs.length xs.length] 123);rw[Eq]at this;exact bB this _
 have x2:W'.heap[V.heap.size+1+1]?=some (.cells #[yU V.heap.size (V.heap.size+1)] 183 (0,0)):=by
  rw[<-u];have:=am ((V.alloc (.cells #[pt g] 50)).alloc (.cells #[.slice (some ⟨W.heap.size,0,none⟩) xs.length xs.length] 123)) (.cells #[yU V.heap.size (V.heap.size+1)] 183);rw[Eq,Eq]at this;exact this
 refine⟨.row ⟨⟨_,_,xs,x1,?_,h.mono (fun v x J=>RF.up J O),?_⟩,x3,⟨by omega,by omega⟩,⟨by omega,by omega⟩,hl⟩ x2 ⟨by omega,by omega⟩ hd,O⟩
 ·intro j s hj;obtain⟨x,_,J⟩:=h.at hj;refine⟨(jG.fl J).isFn,_,_,rfl,?_⟩;have hc:V.heap[W.heap.size]?=some (.cells xs.toArray 184 (0,0)):=by rw[<-I];exact am _ _
  exact aa (af hc G) (by rw[Km];simpa using hj)
 ·intro a ha;cases ha;exact⟨M,by show W.heap.size<_;omega⟩
theorem cR {g lo:Nat}{W:World}(xs:List Value) (n:Nat) (r:List Fl) (hd:∃k I u,r=Fl.wd k I :: u) (hl:r.length<=1000) (h:Al (RF g lo W) xs r) (H:xs.length=n) (G:lo<=W.heap.size) (b:Nat) (F:W.heap.size=b) :
  Kb 180 #[pt g,.slice (some ⟨b,0,none⟩) n n] (W.alloc (.cells xs.toArray 184)) fun e w'=>∃b1 b2,e=.returned (io g (eS b1 b2))/\RI g lo w' (io g (eS b1 b2)) (.again (.row r))/\Below W.heap.size W w':=by
 subst H F;refine(AN _ _ _ _ _).mono ?_;rintro e w'⟨rfl,F⟩;obtain⟨h1,h2⟩:=qj xs r hd hl h G _ _ rfl F.symm;exact⟨_,_,rfl,.again h1,h2⟩
theorem gH {g lo:Nat}{W:World}(xs:List Value) (n:Nat) (r:List Fl) (hd:∃k I u,r=Fl.wd k I :: u) (hl:r.length<=1000) (h:Al (RF g lo W) xs r) (H:xs.length=n) (G:lo<=W.heap.size) (b:Nat) (F:W.heap.size=b) :
  Kb 238 #[pt g,.slice (some ⟨b,0,none⟩) n n] (W.alloc (.cells xs.toArray 184)) fun e w'=>∃b1 b2,e=.returned (km g (eS b1 b2))/\RI g lo w' (km g (eS b1 b2)) (.once (.row r))/\Below W.heap.size W w':=by
 subst H F;refine(xy _ _ _ _ _).mono ?_;rintro e w'⟨rfl,F⟩;obtain⟨h1,h2⟩:=qj xs r hd hl h G _ _ rfl F.symm;exact⟨_,_,rfl,.once h1,h2⟩
theorem m9 {g lo:Nat}(W:World) (m:M) (f:Nat) (F:m.id=f) (u:lo<=W.heap.size) :
  Kb 281 #[pt g,cO g f] W fun e w'=>∃b,e=.returned (km g (EL b))/\RI g lo w' (km g (EL b)) (.once (.ex m))/\Below W.heap.size W w':=by
 subst F;refine(xx _ _ _).mono ?_;rintro e w'⟨rfl,rfl⟩;exact⟨_,rfl,.once (.ex (am _ _) ⟨u,by rw[Eq];exact M9 _⟩),aq _ _⟩
theorem uU {D:Nat->Prop}(h:Ps g D W n K E vs vt) (H:Below W.heap.size W V) (xs:List Value) (r:List It) (M:Al (RI g W.heap.size V) xs r) (X:World) (G:V.alloc (.cells xs.toArray 184)=X) :
  Ps g (Dn D W.heap.size X.heap.size) X n K E vs vt/\yV g (Dn D W.heap.size X.heap.size) X (some ⟨V.heap.size,0,none⟩) xs r/\Below W.heap.size W X:=by
 have u:Below V.heap.size V X:=by rw[<-G];exact aq _ _
 have hs:X.heap.size=V.heap.size+1:=by rw[<-G,Eq]
 have F:Below W.heap.size W X:=H.trans (u.mono H.size);refine⟨h.fresh F,⟨fun j s J=>?_,M.mono (fun v x I=>(RI.up I u).turn (fun k hk=>.inr hk) (fun _ _ _ h=>h)),?_⟩,F⟩
 ·obtain⟨x,_,I⟩:=M.at J;refine⟨I.isFn,_,_,rfl,?_⟩;rw[<-G];exact aa (am V _) (by rw[Km];simpa using J)
 ·intro a O;cases O;exact .inr ⟨H.size,by show V.heap.size<_;omega⟩
theorem aJ {D:Nat->Prop}(h:Ps g D W n K E vs vt) (O:Below W.heap.size W V) (u:Int) (xs:List Value) (m:Nat) (r:List It) (hr:Al (RI g W.heap.size V) xs r) (hm:xs.length=m) (hx:xs.length<=1000) (F:0<=n) (hn:n<=100000000) (M:K.length<=10000000) (J:E.length<=1000000000) (b:Nat) (hw:V.heap.size=b) :
  Kb 92 #[pt g,.int .u8 u,.slice (some ⟨b,0,none⟩) m m] (V.alloc (.cells xs.toArray 184)) fun e w'=>e=.returned (.int .i64 1)/\ay g D vs vt W w' (n+1) (r++.lv u :: K) (E++[⟨1,u,cD⟩]):=by
 subst hw;obtain⟨G,H,I⟩:=uU h O xs r hr _ rfl;refine(D5 G u _ xs m m r hm H hx F hn M J).mono ?_;rintro e w'⟨rfl,hG⟩;exact⟨rfl,ay.fresh I hG⟩
theorem il {D:Nat->Prop}(h:Ps g D W n K E vs vt) (H:Below W.heap.size W V) (xs:List Value) (m:Nat) (r:List It) (J:Al (RI g W.heap.size V) xs r) (I:xs.length=m) (hx:xs.length<=1000) (O:K.length<=10000000) (b:Nat) (M:V.heap.size=b) :
  Kb 135 #[pt g,.slice (some ⟨b,0,none⟩) m m] (V.alloc (.cells xs.toArray 184)) fun e w'=>e=.returned (.int .i64 1)/\ay g D vs vt W w' n (r++K) E:=by
 subst M;obtain⟨u,F,G⟩:=uU h H xs r J _ rfl;refine(gy u _ xs m m r I F (by omega) (by omega)).mono ?_;rintro e w'⟨rfl,hG⟩;exact⟨rfl,ay.fresh G hG⟩
def PV (g:Nat) (D:Nat->Prop) (W:World) (u:Value):Option It->Prop
 |none=>u=.nilFunc
 |some i=>jG g D W u i
theorem sW {D:Nat->Prop}(m:M) (f:Nat) (u:m.id=f):jG g D W (.func (.func f) #[pt g] #[]) (.fl (.mt m)):=by subst u;exact .fl (.mt m)
theorem cE (W:World) (t:Tv):Kc W (W.alloc (.cells #[.int .u8 t.k,.string t.t,.int .i64 t.a,.int .i64 t.l,.int .i64 t.c,.int .i64 t.f] 76)):=aq _ _
theorem rU (g:Nat) (D:Nat->Prop) (t:Tv) (W:World):Kb 236 #[pt g,t.v] W fun r w'=>∃u,r=.returned u/\PV g D W u (Pk.pick t (.fn .bracket))/\Kc W w':=by
 have G:=mkfn;obtain⟨o,F⟩:∃o,Pk.pick t (.fn .bracket)=o:=⟨_,rfl⟩;have H:=ku F;rw[F];clear F
 dsimp only[Tv.v]
 go_enter func236,ntmps236
 go_wp2_with fail
 all_goals(
  go_ret
  refine⟨_,rfl,?_,cE _ _⟩;rw[<-H.out];clear H G
  simp_all[Pk.pick,Dk.pick,Tv.is,PV]
  try exact sW _ _ rfl)
theorem ju (g:Nat) (D:Nat->Prop) (t:Tv) (W:World):Kb 139 #[pt g,t.v] W fun r w'=>∃u,r=.returned u/\PV g D W u (Pk.pick t (.fn .declaration))/\Kc W w':=by
 have G:=mkfn;obtain⟨o,F⟩:∃o,Pk.pick t (.fn .declaration)=o:=⟨_,rfl⟩;have H:=ku F;rw[F];clear F
 dsimp only[Tv.v]
 go_enter func139,ntmps139
 go_wp2_with fail
 all_goals(
  go_ret
  refine⟨_,rfl,?_,cE _ _⟩;rw[<-H.out];clear H G
  simp_all[Pk.pick,Dk.pick,Tv.is,PV]
  try exact sW _ _ rfl)
theorem qK (g:Nat) (D:Nat->Prop) (t:Tv) (W:World):Kb 280 #[pt g,t.v] W fun r w'=>∃u,r=.returned u/\PV g D W u (Pk.pick t (.fn .detail))/\Kc W w':=by
 have G:=mkfn;obtain⟨o,F⟩:∃o,Pk.pick t (.fn .detail)=o:=⟨_,rfl⟩;have H:=ku F;rw[F];clear F
 dsimp only[Tv.v]
 go_enter func280,ntmps280
 go_wp2_with fail
 all_goals(
  go_ret
  refine⟨_,rfl,?_,cE _ _⟩;rw[<-H.out];clear H G
  simp_all[Pk.pick,Dk.pick,Tv.is,PV]
  try exact sW _ _ rfl)
theorem jQ (t:Tv) (W:World):Kb 302 #[t.v] W fun r w'=>r=.returned (.int .u8 (dQ t))/\Below W.heap.size W w':=by
 obtain⟨z,O⟩:∃z,dQ t=z:=⟨_,rfl⟩;obtain⟨cb,hcb⟩:∃cb,(t.k==3||t.k==4||t.k==5)=cb:=⟨_,rfl⟩;have J:=ku O;have I:=ku hcb;have HC:Hid (∀V,Kb 307 #[t.v] V fun r w'=>r=.returned (.int .i64 (dd cb))/\Kc V w'):=fun V=>by rw[<-hcb];exact iP t V
 rw[O];clear hcb O;obtain⟨k,tt,a,l,c,f⟩:=t;have F:Hid (Kc W (W.alloc (.cells #[.int .u8 k,.string tt,.int .i64 a,.int .i64 l,.int .i64 c,.int .i64 f] 76))):=aq _ _
 dsimp only[Tv.v]at HC I ⊢
 by_cases k6:k=6
 ·subst k6;cases cb
  ·have G:dd false=0:=rfl;rw[G]at HC;clear G
   go_enter func302,ntmps302
   go_wp2_with(go_at_call 307;refine(HC.out _).mono ?_;rintro r H⟨rfl,u⟩;have M:=ku (F.out.trans (u.mono F.out.size));have q0:H.cell? ⟨W.heap.size,0,none⟩=some (.int .u8 6):=aa (af (am W _) u) rfl;clear u)
   all_goals(
    go_ret
    refine⟨?_,by first|exact M.out|exact aq _ _⟩;have O:=J.out;have hk:=I.out;clear J I HC F
    simp_all[dQ,Tv.is]
    try omega)
  ·have G:dd true=2:=rfl;rw[G]at HC;clear G
   go_enter func302,ntmps302
   go_wp2_with(go_at_call 307;refine(HC.out _).mono ?_;rintro r H⟨rfl,u⟩;have M:=ku (F.out.trans (u.mono F.out.size));have q0:H.cell? ⟨W.heap.size,0,none⟩=some (.int .u8 6):=aa (af (am W _) u) rfl;clear u)
   all_goals(
    go_ret
    refine⟨?_,by first|exact M.out|exact aq _ _⟩;have O:=J.out;have hk:=I.out;clear J I HC F
    simp_all[dQ,Tv.is]
    try omega)
 by_cases k2:k=2
 ·subst k2;cases cb
  ·have G:dd false=0:=rfl;rw[G]at HC;clear G
   go_enter func302,ntmps302
   go_wp2_with(go_at_call 307;refine(HC.out _).mono ?_;rintro r H⟨rfl,u⟩;have M:=ku (F.out.trans (u.mono F.out.size));have q0:H.cell? ⟨W.heap.size,0,none⟩=some (.int .u8 2):=aa (af (am W _) u) rfl;clear u)
   all_goals(
    go_ret
    refine⟨?_,by first|exact M.out|exact aq _ _⟩;have O:=J.out;have hk:=I.out;clear J I HC F
    simp_all[dQ,Tv.is]
    try omega)
  ·have G:dd true=2:=rfl;rw[G]at HC;clear G
   go_enter func302,ntmps302
   go_wp2_with(go_at_call 307;refine(HC.out _).mono ?_;rintro r H⟨rfl,u⟩;have M:=ku (F.out.trans (u.mono F.out.size));have q0:H.cell? ⟨W.heap.size,0,none⟩=some (.int .u8 2):=aa (af (am W _) u) rfl;clear u)
   all_goals(
    go_ret
    refine⟨?_,by first|exact M.out|exact aq _ _⟩;have O:=J.out;have hk:=I.out;clear J I HC F
    simp_all[dQ,Tv.is]
    try omega)
 ·have ac:(k==6)=false:=by simpa using k6
  have ab:(k==2)=false:=by simpa using k2
  clear k6 k2;cases cb
  ·have G:dd false=0:=rfl;rw[G]at HC;clear G
   go_enter func302,ntmps302
   go_wp2_with(go_at_call 307;refine(HC.out _).mono ?_;rintro r H⟨rfl,u⟩;have M:=ku (F.out.trans (u.mono F.out.size));have q0:H.cell? ⟨W.heap.size,0,none⟩=some (.int .u8 k):=aa (af (am W _) u) rfl;clear u)
   all_goals(
    go_ret
    refine⟨?_,by first|exact M.out|exact aq _ _⟩;have O:=J.out;have hk:=I.out;clear J I HC F
    simp_all[dQ,Tv.is]
    try omega)
  ·have G:dd true=2:=rfl;rw[G]at HC;clear G
   go_enter func302,ntmps302
   go_wp2_with(go_at_call 307;refine(HC.out _).mono ?_;rintro r H⟨rfl,u⟩;have M:=ku (F.out.trans (u.mono F.out.size));have q0:H.cell? ⟨W.heap.size,0,none⟩=some (.int .u8 k):=aa (af (am W _) u) rfl;clear u)
   all_goals(
    go_ret
    refine⟨?_,by first|exact M.out|exact aq _ _⟩;have O:=J.out;have hk:=I.out;clear J I HC F
    simp_all[dQ,Tv.is]
    try omega)
theorem qJ {D:Nat->Prop}{b1 b2 b3:Nat}{r:List Fl}(h:ut g D W b3 b1 r) (h2:W.heap[b2]?=some (.cells #[yU b3 b1] 183 (0,0))) (hr:∃k G J,r=Fl.wd k G :: J) (t:Tv) :
  Kb 283 #[t.v,pt b1,pt b2] W fun e w'=>∃u,e=.returned u/\PV g D W u (Pk.pick t (.row r))/\Kc W w':=by
 obtain⟨k,G,J,M⟩:=hr;have HG:Hid (jG g D W (yU b3 b1) (.all r)):=.all h;obtain⟨ao,cap,xs,x1,x2,x3,x4⟩:=h.ex;rw[M]at x3
 obtain⟨v0,O,rfl,ab,_⟩:∃v0 O,xs=v0 :: O/\lX g D W v0 (.wd k G)/\True:=by
  cases x3 with
  |cons hv hl=>exact⟨_,_,rfl,hv,trivial⟩
 obtain⟨_,b,ad,rfl,c0⟩:=x2 0 v0 rfl
 obtain⟨ao,cp,rfl,hl,H⟩:∃ao cp,v0=aF k (.slice ao G.length cp)/\Ls W ao G/\G.length<=1000:=by
  cases ab with
  |wd hl hd H=>exact⟨_,_,rfl,hl,H⟩
 ·clear ab;have HS:=ku fun V (hb:Kc W V)=>mR k ao G cp t V (hl.below hb) H
  have hp:Pk.pick t (.row r)=if(t.k==k&&lD G t.t)then some (.all r)else none:=by rw[M];rfl
  rw[hp]
  generalize(t.k==k&&lD G t.t)=cb at *
  have y1:W.cell? ⟨b1,0,none⟩=_:=aa x1 rfl;have y2:W.cell? ⟨b2,0,none⟩=_:=aa h2 rfl;have z1:=ai x1;have z2:=ai h2;have z3:b<W.heap.size:=Kg _ _ c0;have ac:=ku h2;have q1:(0:Int)<(O.length:Int)+1:=by omega
  clear h h2 M x1 x2 x3 x4 hl hp;have I:=ku ((cE W t).drew);rw[K0]at c0
  dsimp only[aF]at c0
  dsimp only[Tv.v,List.length_cons]at *
  cases cb
  ·have e0:dd false=0:=rfl;rw[e0]at HS;clear e0
   go_enter func283,ntmps283
   go_wp2_with fail
   go_region_with (go_at_call 137;refine(HS.out _ I.out).mono ?_;rintro r w1⟨rfl,F⟩;have HB:=ku (I.out.trans (F.mono I.out.size));clear F)
   all_goals(
    go_wp2_with fail
    go_ret
    exact⟨_,rfl,rfl,HB.out⟩)
  ·have e0:dd true=2:=rfl;rw[e0]at HS;clear e0
   go_enter func283,ntmps283
   go_wp2_with fail
   go_region_with (go_at_call 137;refine(HS.out _ I.out).mono ?_;rintro r w1⟨rfl,F⟩;have HB:=ku (I.out.trans (F.mono I.out.size));have y5:w1.cell? ⟨b2,0,none⟩=some (yU b3 b1):=aa (af ac.out (I.out.trans (F.mono I.out.size))) rfl;clear F)
   all_goals(
    go_wp2_with fail
    go_ret
    exact⟨_,rfl,HG.out,HB.out⟩)
theorem tj {D:Nat->Prop}{b:Nat}{m:M}(h2:W.heap[b]?=some (.cells #[cO g m.id] 184 (0,0))) (t:Tv) :
  Kb 301 #[t.v,pt b] W fun e w'=>∃u,e=.returned u/\PV g D W u (Pk.pick t (.ex m))/\Kc W w':=by
 have HF:Hid (∀V,Kb 302 #[.agg #[.int .u8 t.k,.string t.t,.int .i64 t.a,.int .i64 t.l,.int .i64 t.c,.int .i64 t.f]] V fun r w'=>r=.returned (.int .u8 (dQ t))/\Kc V w'):=fun V=>jQ t V
 have G:=ku (cE W t);have HY:=ku h2;have HP:Hid (Pk.pick t (.ex m)=if dQ t==0 then none else some (.fl (.mt m))):=rfl;rw[HP.out]
 generalize dQ t=z at *
 clear HP h2
 dsimp only[Tv.v]
 by_cases J:(z==0)=true
 ·rw[J]
  go_enter func301,ntmps301
  go_wp2_with(go_at_call 302;refine(HF.out _).mono ?_;rintro r H⟨rfl,F⟩;have I:=ku (G.out.trans (F.mono G.out.size));clear F)
  go_ret
  exact⟨_,rfl,rfl,I.out⟩
 ·have O:(z==0)=false:=by simpa using J
  clear J;rw[O]
  go_enter func301,ntmps301
  go_wp2_with(go_at_call 302;refine(HF.out _).mono ?_;rintro r H⟨rfl,F⟩;have I:=ku (G.out.trans (F.mono G.out.size));have y5:H.cell? ⟨b,0,none⟩=some (cO g m.id):=aa (af HY.out (G.out.trans (F.mono G.out.size))) rfl;clear F)
  go_ret
  exact⟨_,rfl,.fl (.mt m),I.out⟩
abbrev Is (f:Nat):Prop:=∀(args:Array Value) (w:World),(callFunc f args).run Tryz.prog w=.ok (.enter f args) w
theorem qI {D:Nat->Prop}{p:Pk}(h:jb g D W v p) (t:Tv):∃f H G,v=.func (.func f) H G/\Is f/\∀V,Below W.heap.size W V->Kb f (H.push t.v++G) V fun e w'=>∃u,e=.returned u/\PV g D V u (Pk.pick t p)/\Below V.heap.size V w':=by
 cases h with
 |fn d=>
  cases d with
  |declaration=>exact⟨_,_,_,rfl,enters_of func139 (by kernel_rfl) rfl,fun V F=>ju g D t V⟩
  |bracket=>exact⟨_,_,_,rfl,enters_of func236 (by kernel_rfl) rfl,fun V F=>rU g D t V⟩
  |detail=>exact⟨_,_,_,rfl,enters_of func280 (by kernel_rfl) rfl,fun V F=>qK g D t V⟩
 |row h1 h2 h3 h4=>exact⟨_,_,_,rfl,enters_of func283 (by kernel_rfl) rfl,fun V F=>qJ (h1.turn (fun _ h=>h) (fun k o _ I=>af I F)) (af h2 F) h4 t⟩
 |ex h1 h2=>exact⟨_,_,_,rfl,enters_of func301 (by kernel_rfl) rfl,fun V F=>tj (af h1 F) t⟩
theorem Ps.below' {D:Nat->Prop}(h:Ps g D W n K E vs vt) (u:Kc W W'):Ps g D W' n K E vs vt:=by
 obtain⟨xs,F,G⟩:=h.st;exact⟨h.pb.below u,⟨xs,F.below u,G.mono (fun v x J=>J.turn (fun _ h=>h) (fun k o _ I=>af I u))⟩,h.ev.below u,h.dg,h.ds,h.dt,fun k H=>Kl (h.dl k H) u.size⟩
theorem Ps.quiet {D:Nat->Prop}(h:Ps g D W n K E vs vt) (u:Below W.heap.size W W'):ay g D vs vt W W' n K E:=
 ⟨D,vs,vt,h.below' u,Kp.of_below u,Nb.refl _ _,Nb.refl _ _,fun _ h=>h,fun _ h=>.inl h⟩
theorem Ic {D:Nat->Prop}(h:Ps g D W n K E vs vt) {b1 b3:Nat}{r:List Fl}(u:ut g D W b3 b1 r) (t:Tv) (hK:K.length<=10000000) :
  Kb 282 #[t.v,pt b3,pt b1] W fun e w'=>e=.returned (.int .i64 1)/\ay g D vs vt W w' n (r.map It.fl++K) E:=by
 obtain⟨ao,cap,xs,H,M,I,O⟩:=u.ex;have ab:xs.length<=1000:=by rw[I.len];exact u.ln
 have y1:W.cell? ⟨b1,0,none⟩=_:=aa H rfl;have y3:W.cell? ⟨b3,0,none⟩=_:=aa u.pb rfl;have J:yV g D W ao xs (r.map It.fl):=⟨M,I.map (fun v x hx=>.fl hx),O⟩
 have HX:Hid (∀V,Kc W V->Kb 135 #[pt g,.slice ao xs.length cap] V fun e w'=>e=.returned (.int .i64 1)/\ay g D vs vt W w' n (r.map It.fl++K) E):=fun V G=>by
  refine(gy (h.below' G) ao xs xs.length cap (r.map It.fl) rfl (J.turn (fun k o _ ho=>af ho G)) (by omega) (by omega)).mono ?_;rintro e w'⟨rfl,F⟩;refine⟨rfl,ay.go (Kp.of_below G) (Nb.refl _ _) (Nb.refl _ _) (fun _ h=>h) (fun _ h=>.inl h) F⟩
 have HA:=ku (cE W t);have z1:=ai H;have z3:=ai u.pb;clear h u H M I O J hK
 dsimp only[Tv.v]
 go_enter func282,ntmps282
 go_wp2_with(go_at_call 135;refine(HX.out _ HA.out).mono ?_;rintro e w1⟨rfl,F⟩;have HG:=ku F;clear F)
 go_ret
 exact⟨rfl,HG.out⟩
theorem lK {D:Nat->Prop}(h:Ps g D W n K E vs vt) (I:Below W.heap.size W V) (xs:List Value) (m:Nat) (r:List It) (M:Al (jG g D V) xs r) (hm:xs.length=m) (H:xs.length<=1000) (hK:K.length<=10000000) :
  Kb 135 #[pt g,.slice (some ⟨V.heap.size,0,none⟩) m m] (V.alloc (.cells xs.toArray 184)) fun e w'=>e=.returned (.int .i64 1)/\ay g D vs vt W w' n (r++K) E:=by
 obtain⟨X,G⟩:∃X,V.alloc (.cells xs.toArray 184)=X:=⟨_,rfl⟩;have u:Below V.heap.size V X:=by rw[<-G];exact aq _ _
 have hs:X.heap.size=V.heap.size+1:=by rw[<-G,Eq]
 have F:Below W.heap.size W X:=I.trans (u.mono I.size)
 have hR:yV g (Dn D W.heap.size X.heap.size) X (some ⟨V.heap.size,0,none⟩) xs r:=by
  refine⟨fun j s J=>?_,M.mono (fun v x H=>H.turn (fun k hk=>.inl hk) (fun k o _ ho=>af ho u)),?_⟩
  ·obtain⟨x,_,H⟩:=M.at J;refine⟨H.isFn,_,_,rfl,?_⟩;rw[<-G];exact aa (am V _) (by rw[Km];simpa using J)
  ·intro a ha;cases ha;exact .inr ⟨I.size,by show V.heap.size<_;omega⟩
 rw[G];refine(gy (h.fresh F) _ xs m m r hm hR (by omega) (by omega)).mono ?_;rintro e w'⟨rfl,O⟩;exact⟨rfl,ay.fresh F O⟩
theorem vQ (w:World):(binOp .eql 184 .nilFunc .nilFunc).run Tryz.prog w=.ok (.bool true) w:=by kernel_rfl
theorem BF (G:Fn) (F u:Array Value) (w:World):(binOp .eql 184 (.func G F u) .nilFunc).run Tryz.prog w=.ok (.bool false) w:=by kernel_rfl
theorem D6 {D:Nat->Prop}(h:Ps g D W n K E vs vt) {v:Value}{p:Pk}(hv:jb g D W v p) (t:Tv) (hK:K.length<=10000000) :
  Kb 237 #[.agg #[pt g,v],t.v] W fun e w'=>e=.returned (.int .i64 1)/\ay g D vs vt W w' n ((Pk.pick t p).toList++K) E:=by
 have M:=hv;obtain⟨f,fi,O,rfl,eg,hc⟩:=qI hv t;have ab:=mkfn;have HC:=ku hc;have HP:Hid (Ps g D W n K E vs vt/\K.length<=10000000/\jb g D W (.func (.func f) fi O) p):=⟨h,hK,M⟩;have HA:Hid (Kc W ((W.alloc (.cells #[pt g,.func (.func f) fi O] 238)).alloc (.cells #[.int .u8 t.k,.string t.t,.int .i64 t.a,.int .i64 t.l,.int .i64 t.c,.int .i64 t.f] 76))):=(aq _ _).alloc (by rw[Eq];exact Of _) _;clear hc h hK hv M
 dsimp only[Tv.v]
 generalize Pk.pick t p=o at *
 go_enter func237,ntmps237
 go_wp2_with fail
 refine(HC.out _ HA.out).mono ?_;rintro e H⟨u,rfl,hu,F⟩;have hb:Below W.heap.size W H:=HA.out.trans (F.mono HA.out.size);have d0:H.cell? ⟨W.heap.size,0,none⟩=some (pt g):=aa (af (bB (am W _) _) F) rfl;have d1:H.cell? ⟨W.heap.size,1,none⟩=some (.func (.func f) fi O):=aa (af (bB (am W _) _) F) rfl;have HB:=ku hb;cases o with
 |none=>
  have G:u=.nilFunc:=hu;subst G;clear hu hb F;have q0:=vQ
  go_wp2_with fail
  go_ret
  exact⟨rfl,HP.out.1.quiet HB.out⟩
 |some i=>
  have G:jG g D H u i:=jG.turn hu (fun _ h=>h) (fun k o _ ho=>af ho F);obtain⟨fn,J,I,rfl⟩:=G.isFn;have HU:=ku G;clear hu hb F G;have q0:=BF
  go_wp2_with fail
  refine(lK HP.out.1 HB.out [.func fn J I] 1 [i] (.cons HU.out .nil) rfl (by show 1<=1000;decide) HP.out.2.1).mono ?_;rintro e w2⟨rfl,hG⟩;have HG:=ku hG;clear hG
  go_wp2_with fail
  go_ret
  exact⟨rfl,HG.out⟩
theorem Cw {D:Nat->Prop}(h:Ps g D W n K E vs vt) {v:Value}{p:Pk}(hv:jb g D W v p) (t:Tv) (hK:K.length<=10000000) :
  Kb 140 #[.agg #[pt g,v],t.v] W fun e w'=>e=.returned (.int .i64 1)/\ay g D vs vt W w' n (Jl p (Pk.pick t p)++K) E:=by
 have ab:=hv;obtain⟨f,J,I,rfl,eg,hc⟩:=qI hv t;have ac:=mkfn;have HC:=ku hc;have HP:Hid (Ps g D W n K E vs vt/\K.length<=10000000/\jb g D W (.func (.func f) J I) p):=⟨h,hK,ab⟩;have HA:Hid (Kc W ((W.alloc (.cells #[pt g,.func (.func f) J I] 238)).alloc (.cells #[.int .u8 t.k,.string t.t,.int .i64 t.a,.int .i64 t.l,.int .i64 t.c,.int .i64 t.f] 76))):=(aq _ _).alloc (by rw[Eq];exact Of _) _;clear hc h hK hv ab
 dsimp only[Tv.v]
 generalize Pk.pick t p=o at *
 go_enter func140,ntmps140
 go_wp2_with fail
 refine(HC.out _ HA.out).mono ?_;rintro e H⟨u,rfl,hu,F⟩;have hb:Below W.heap.size W H:=HA.out.trans (F.mono HA.out.size);have d0:H.cell? ⟨W.heap.size,0,none⟩=some (pt g):=aa (af (bB (am W _) _) F) rfl;have d1:H.cell? ⟨W.heap.size,1,none⟩=some (.func (.func f) J I):=aa (af (bB (am W _) _) F) rfl;have HB:=ku hb;cases o with
 |none=>
  have G:u=.nilFunc:=hu;subst G;clear hu hb F;have q0:=vQ
  go_wp2_with fail
  go_ret
  exact⟨rfl,HP.out.1.quiet HB.out⟩
 |some i=>
  have G:jG g D H u i:=jG.turn hu (fun _ h=>h) (fun k o _ ho=>af ho F);obtain⟨fn,O,M,rfl⟩:=G.isFn;have HU:=ku G;clear hu hb F G;have q0:=BF
  go_wp2_with fail
  refine(lK HP.out.1 HB.out [.func fn O M,io g (.func (.func f) J I)] 2 [i,.again p] (.cons HU.out (.cons (.again (HP.out.2.2.turn (fun _ h=>h) (fun k o _ ho=>af ho HB.out))) .nil)) rfl (by show 2<=1000;decide) HP.out.2.1).mono ?_;rintro e w2⟨rfl,hG⟩;have HG:=ku hG;clear hG
  go_wp2_with fail
  go_ret
  exact⟨rfl,HG.out⟩
def bq (g:Nat) (D:Nat->Prop) (vs vt:Value) (W:World) (n:Int) (K:List It) (E:List Ev) (e:Ending) (w':World):Gw->Prop
 |.ref=>e=.returned (.int .i64 0)/\Below W.heap.size W w'
 |.ex r=>e=.returned (.int .i64 1)/\ay g D vs vt W w' n (r++K) E
 |.op nd r=>e=.returned (.int .i64 1)/\ay g D vs vt W w' (n+1) (r++.lv nd :: K) (E++[⟨1,nd,cD⟩])
def eG (g:Nat) (D:Nat->Prop) (W:World) (n:Int) (K:List It) (E:List Ev) (vs vt:Value):Prop:=
 Ps g D W n K E vs vt/\0<=n/\n<=100000000/\K.length<=10000000/\E.length<=1000000000
