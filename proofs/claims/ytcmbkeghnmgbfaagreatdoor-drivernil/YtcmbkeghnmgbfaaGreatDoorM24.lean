import Derived.Test.YtcmbkeghnmgbfaaGreatDoorM23
set_option linter.all false
set_option maxHeartbeats 2000000
namespace Go.Proofs.YtcmbkeghnmgbfaaGreatDoor.Lw
open Go.Proofs.Tryz
open Lx
open Go.RowKit
variable {T C:Nat}{s:S9}{V w':World}{p:Pr}
def dL (p:Pr):Pr:={ p with sk:=p.sk.take }
def pre (u:List UInt8) (p:Pr):Pr:={ p with sk:={ p.sk with out:=u++p.sk.out } }
theorem vh (p:Pr):pre p.sk.out (dL p)=p:=by
 obtain⟨⟨f,c,w,o⟩,bl,u,F⟩:=p;simp[pre,dL,cK.take]
theorem vT (u:List UInt8) (p:Pr):dL (pre u p)=dL p:=rfl
theorem Ao (u:List UInt8) (s:cK) (t:ByteArray):cK.text { s with out:=u++s.out } t={ s.text t with out:=u++(s.text t).out }:=by
 unfold cK.text
 split
 ·rfl
 ·simp[Ks]
theorem As (u:List UInt8) (s:cK) (n:Nat):cK.feed { s with out:=u++s.out } n={ s.feed n with out:=u++(s.feed n).out }:=by
 simp[cK.feed,Ks]
theorem xl (u:List UInt8) (s:cK):cK.empty { s with out:=u++s.out }={ s.empty with out:=u++s.empty.out }:=by
 obtain⟨f,c,w,o⟩:=s;cases f
 ·rfl
 ·simp[cK.empty,cK.feed,Ks]
theorem qz (u:List UInt8) (p:Pr) (m:Nat):(pre u p).hold m=pre u (p.hold m):=by
 unfold Pr.hold;show(if p.sk.fresh=true then _ else _)=_
 split<;>rfl
theorem qA (u:List UInt8) (p:Pr):(pre u p).endl=pre u p.endl:=by
 unfold Pr.endl;show(if p.sk.fresh=true then _ else _)=_
 split
 ·rfl
 ·show(⟨cK.feed { p.sk with out:=u++p.sk.out } p.bl.ind,p.bl,p.ar,true⟩:Pr)=_
  rw[As];rfl
theorem DY (u:List UInt8) (N:Nat) (d:Dc) (n:Nat) (p:Pr):put N d n (pre u p)=pre u (put N d n p):=by
 have F:(pre u p).brk N n=p.brk N n:=rfl;unfold put
 split
 ·show(⟨cK.text { p.sk with out:=u++p.sk.out } d.t,p.bl,p.ar,false⟩:Pr)=_
  rw[Ao];rfl
 split
 ·exact qz u p 1
 split
 ·rw[F]
  split
  ·exact qA u p
  ·exact qz u p _
 split
 ·exact qA u p
 split
 ·show(if p.en=true then(⟨cK.empty { p.sk with out:=u++p.sk.out },p.bl,p.ar,false⟩:Pr)else pre u p)=_
  split
  ·rw[xl];rfl
  ·rfl
 split
 ·rfl
 split
 ·rfl
 ·rfl
theorem om (u:List UInt8) (N:Nat) (tot:Int) (m:Pm):∀(hl:List Nat) (p:Pr),fU N tot m (pre u p) hl=(pre u (fU N tot m p hl).1,(fU N tot m p hl).2)
 |[],p=>rfl
 |b :: r,p=>by
  rw[fU,fU];cases m b with
  |none=>rfl
  |some x=>
   have hc:pD N (pre u p) x.d x.st (x.need tot).toNat=pD N p x.d x.st (x.need tot).toNat:=rfl;simp only[hc]
   split
   ·rw[DY];exact om u N tot m r _
   ·rfl
theorem Bp.cut {U:Nat}(h:Bp p U):Bp (dL p) U:=by
 have u:=h.out;refine⟨?_,h.col,h.ind,h.ar,h.wt⟩;show 0+p.sk.wait+(if p.sk.fresh then p.sk.col else 0)<=U;omega
theorem ef.cut {v:List Dc}{dp:Nat}{cl:Bool}(h:ef ⟨p,v,dp,cl⟩ T C):ef ⟨dL p,v,dp,cl⟩ T C:=by
 obtain⟨U,u,F,G,H⟩:=h;exact⟨U,u.cut,F,G,H⟩
theorem uN {N:Nat}{l:List Dc}(h:sa N l s) {d:Dc}(hd:rt d=true/\¬(d.k=7/\s.dp=0)):sa N (l++[d]) ⟨s.pr,s.wt++[d],dn d.k s.dp,false⟩:=by
 have I:=h.len
 have F:(l++[d]).length-(s.wt++[d]).length=l.length-s.wt.length:=by
  rw[Kf,Kf];simp
 refine⟨?_,rfl,?_,?_,fun u H=>?_⟩
 ·show jM 0 (l++[d])=some ((dn d.k s.dp:Nat):Int)
  rw[kl l [d] 0 _ h.op,qP,Kd hd];rfl
 ·show(s.wt++[d]).length<=(l++[d]).length
  rw[Kf,Kf];omega
 ·show s.wt++[d]=(l++[d]).drop ((l++[d]).length-(s.wt++[d]).length)
  rw[F,K9 (by omega),<-h.wt]
 ·show s.pr=gV N (l++[d]++u) ((l++[d]).length-(s.wt++[d]).length)
  have G:l++[d]++u=l++([d]++u):=Ks _ _ _;rw[F,G];exact h.pr ([d]++u) (by rw[<-G];exact H)
theorem wZ (tot e:Int) (m:Pm) (rl:List Nat):(aP tot e m rl).2.length<=rl.length:=by
 unfold aP
 split
 ·exact ge _
 ·have:∀(rl:List Nat) (m:Pm),(sett tot e m rl).2.length<=rl.length:=by
   intro rl
   induction rl with
   |nil=>intro m;exact ge _
   |cons b r ih=>
    intro m;rw[sett];cases m b with
    |none=>exact ge _
    |some x=>
     simp only
     split
     ·exact Kh (ih _) (by simp)
     ·split
      ·simp
      ·exact ge _
  exact this rl m
theorem Gr {own:Nat->Nat}{W:World}{g N:Nat}{c:CS}(h:T9 own W V g N c) (d:Dc) (M:rt d=true) (h7:¬(d.k=7/\c.op=0)) (aa:c.op<=1000000000) (rl:List Nat) (ac:c.wl=rl.reverse) (hm:∀b∈rl,∃x,c.m b=some x/\(x.d.k=6\/x.d.k=3)) (O:rl.length<=900000000) (ab:c.hl.length<=900000000) :
  Kb 113 #[.pointer (some ⟨g,0,none⟩),.agg #[.int .u8 d.k,.string d.t,.int .i64 d.b,.int .i64 d.i,.bool d.e]] V fun e w'=>e=.returned (.tuple #[])/\∃u,c.m u=none/\T9 own W w' g N { op:=dn d.k c.op,tot:=wr (c.tot+(pw d:Nat)),hl:=c.hl++[u],wl:=(if jO d=true then u :: (aP c.tot d.k c.m rl).2 else(aP c.tot d.k c.m rl).2).reverse,m:=fj (aP c.tot d.k c.m rl).1 u ⟨d,c.tot,false,0⟩,pr:=c.pr }:=by
 obtain⟨o,gs,qh,qw,v,csh,csw,k1,k2⟩:=h;have G:=wZ c.tot d.k c.m rl
 have F:∀u,V.heap.size<=u->c.m u=none:=fun u J=>by
  cases hx:c.m u with
  |none=>rfl
  |some x=>have:=ai (k1.pm u x hx).1;omega
 have I:1<=d.k/\d.k<=7:=by cases iy M<;>simp
 obtain⟨H,dt,db,di,de⟩:=d;simp only at G h7 I;refine(zA k1.t9 H (dn H c.op) (jO ⟨H,dt,db,di,de⟩) ?_ I dt db di de M aa rl ac hm O ab G).mono ?_
 ·unfold dn jO
  by_cases e6:H=6
  ·subst e6;exact .inl ⟨rfl,rfl,rfl⟩
  ·rw[IO e6]
   by_cases e7:H=7
   ·subst e7;exact .inr (.inl ⟨rfl,Nat.sub_add_cancel (Nat.pos_of_ne_zero fun e=>h7 ⟨rfl,e⟩),rfl⟩)
   ·rw[IO e7]
    by_cases e3:H=3
    ·subst e3;exact .inr (.inr (.inl ⟨rfl,rfl,rfl⟩))
    ·exact .inr (.inr (.inr ⟨⟨e6,e7,e3⟩,rfl,Kr (by simp only;omega)⟩))
 ·rintro e w'⟨rfl,u,J,ht⟩;exact⟨rfl,u,F u J,ht.step k2⟩
theorem ef.rings {m:Pm}{tot:Int}{hl rl:List Nat}(h:ef s T C) (u:WI m tot hl rl s.wt s.dp) (J:C<=100000000):rl.length<=300000000/\hl.length<=100000000/\s.dp<=100000000:=by
 have F:=u.wr.le.2.1;have G:=h.dpb;have H:=u.hi.len;obtain⟨_,_,_,_,I⟩:=h;omega
theorem kh {own:Nat->Nat}{W:World}{g N:Nat}{c:CS}(h:T9 own W V g N c):Kb 111 #[.pointer (some ⟨g,0,none⟩)] V fun e w'=>e=.returned (.int .i64 0)/\w'=V:=jr g false V h.cc.1
theorem Im (d:Dc) (g:Nat) (W:World) (h:W.cell? ⟨g,0,none⟩=some (.bool true)):Kb 76 #[.pointer (some ⟨g,0,none⟩),.agg #[.int .u8 d.k,.string d.t,.int .i64 d.b,.int .i64 d.i,.bool d.e]] W fun e w'=>e=.returned (.tuple #[.string ⟨#[]⟩,.int .i64 4])/\Kc W w':=by
 obtain⟨J,M,G,I,H⟩:=d
 dsimp only
 have u:Hid (∀o,Kc W (W.alloc o)):=fun o=>(gt _ _).alloc (ge _) _
 have F:Hid (∀o,Kb 111 #[.pointer (some ⟨g,0,none⟩)] (W.alloc o) fun e w'=>e=.returned (.int .i64 4)/\w'=W.alloc o):=fun o=>jr g true _ (((gt W.heap.size W).alloc (ge _) o).cell (p:=⟨g,0,none⟩) (Kg _ _ h) |>.trans h)
 clear h
 go_enter func76,ntmps76
 go_wp2_with fail
 refine(F.out _).mono ?_;rintro e O⟨rfl,rfl⟩
 go_wp2_with fail
 go_ret2
 exact⟨rfl,u.out _⟩
section
variable {own:Nat->Nat} {W:World} {g N gs qh qw:Nat} {v:Value} {csh csw:List (Nat × List Nat)} {c:CS}
theorem II (h:ST own W g N gs qh qw v csh csw c) (d:Dc) (ab:d.t.size<=9223372036854775807) (G:¬(rt d=true/\¬(d.k=7/\c.op=0))) :
  Kb 76 #[.pointer (some ⟨g,0,none⟩),.agg #[.int .u8 d.k,.string d.t,.int .i64 d.b,.int .i64 d.i,.bool d.e]] W fun e w'=>e=.returned (.tuple #[.string ⟨#[]⟩,.int .i64 70])/\Kc W w':=by
 obtain⟨W1,H⟩:∃W1,W.alloc (.cells #[.int .u8 d.k,.string d.t,.int .i64 d.b,.int .i64 d.i,.bool d.e] 151)=W1:=⟨_,rfl⟩;have I:Kc W W1:=by rw[<-H];exact(gt _ _).alloc (ge _) _
 have M:W1.heap[W.heap.size]?=some (.cells #[.int .u8 d.k,.string d.t,.int .i64 d.b,.int .i64 d.i,.bool d.e] 151 (0,0)):=by rw[<-H];exact am _ _
 have h1:=h.below I;have HR:=ku (kh h1.t9);obtain⟨x0,x1,x2,x3,x4⟩:=fD M
 have u:Hid (Kb 112 #[d.v] W1 fun e w'=>e=.returned (.bool (rt d))/\Hid (Kc W w')/\w'.cell? ⟨W.heap.size,0,none⟩=some (.int .u8 d.k)/\w'.cell? ⟨g,1,none⟩=some (.int .i64 (c.op:Nat))):=by
  refine(kR d ab W1).mono ?_;rintro e w'⟨rfl,hb⟩;exact⟨rfl,I.trans (hb.mono I.size),aa (af M hb) rfl,(h1.below hb).c1⟩
 have O:=ku H;clear H h h1 I M ab;cases F:rt d
 ·rw[F]at u;clear G F;obtain⟨dk,dt,db,di,de⟩:=d
  dsimp only[Dc.v]at *
  go_enter func76,ntmps76
  go_wp2_with fail
  rw[O.out];refine HR.out.mono ?_;rintro e w1⟨rfl,rfl⟩
  go_wp2_with fail
  refine u.out.mono ?_;rintro e w2⟨rfl,J,y0,y1⟩
  go_wp2_with fail
  go_ret2
  exact⟨rfl,J.out⟩
 ·have h7:d.k=7/\c.op=0:=Mq fun hn=>G ⟨F,hn⟩
  obtain⟨h7,h0⟩:=h7;rw[F]at u;rw[h0]at u;clear G F h0;obtain⟨dk,dt,db,di,de⟩:=d
  dsimp only[Dc.v]at *
  subst h7
  go_enter func76,ntmps76
  go_wp2_with fail
  rw[O.out];refine HR.out.mono ?_;rintro e w1⟨rfl,rfl⟩
  go_wp2_with fail
  refine u.out.mono ?_;rintro e w2⟨rfl,J,y0,y1⟩
  go_wp2_with fail
  go_ret2
  exact⟨rfl,J.out⟩
theorem Il (h:ST own W g N gs qh qw v csh csw c) (d:Dc) (aw:d.t.size<=9223372036854775807) (F:rt d=true/\¬(d.k=7/\c.op=0)) {s:S9}{T C:Nat}{rl:List Nat}(az:c.wl=rl.reverse) (hw:WI c.m c.tot c.hl rl s.wt s.dp) (ak:c.op=s.dp) (ay:c.pr=dL s.pr) (O:ef s T C) (hT:T+ud d<=2147483647) (hC:C+1<=100000000) (hN:N<=4096)
  {l:List Dc} (hS:sa N l s) (ah:Fe s.pr s.wt) :
  Kb 76 #[.pointer (some ⟨g,0,none⟩),.agg #[.int .u8 d.k,.string d.t,.int .i64 d.b,.int .i64 d.i,.bool d.e]] W fun e w'=>e=.returned (.tuple #[.string ⟨(s.told (s.put N d).1).toArray⟩,.int .i64 0])/\∃c',T9 own W w' g N c'/\(∃J,c'.wl=J.reverse/\WI c'.m c'.tot c'.hl J (s.put N d).1.wt (s.put N d).1.dp)/\c'.op=(s.put N d).1.dp/\c'.pr=dL (s.put N d).1.pr/\sa N (l++[d]) (s.put N d).1/\Fe (s.put N d).1.pr (s.put N d).1.wt:=by
 have u:rt d=true/\¬(d.k=7/\s.dp=0):=by rw[<-ak];exact F
 obtain⟨bg,bh,bi⟩:=O.rings hw (by omega);have I:=O.push u false;have ae:=I.rt
 have al:jc (s.wt++[d])<=1000000000000000:=by
  have h1:=og (s.wt++[d]) ae;obtain⟨U,_,h2,_,h4⟩:=I;simp only at h2 h4;omega
 have ad:jc s.wt+pw d<4611686018427387904:=by rw[qt]at al;omega
 have M:s.put N d=(⟨(drn N s.pr (s.wt++[d])).1,(drn N s.pr (s.wt++[d])).2,dn d.k s.dp,false⟩,0):=by
  unfold S9.put;rw[IO (by rw[hS.cl];simp),Kd u]
 rw[M];obtain⟨W1,aa⟩:∃W1,W.alloc (.cells #[.int .u8 d.k,.string d.t,.int .i64 d.b,.int .i64 d.i,.bool d.e] 151)=W1:=⟨_,rfl⟩;have aj:Kc W W1:=by rw[<-aa];exact(gt _ _).alloc (ge _) _
 have an:W1.heap[W.heap.size]?=some (.cells #[.int .u8 d.k,.string d.t,.int .i64 d.b,.int .i64 d.i,.bool d.e] 151 (0,0)):=by rw[<-aa];exact am _ _
 have h1:=h.below aj;have ai:T9 own W W1 g N c:=h.t9.below aj;have HR:=ku (kh ai)
 have aq:Hid (Kb 112 #[d.v] W1 fun e w'=>e=.returned (.bool true)/\Hid (T9 own W w' g N c)/\w'.heap[W.heap.size]?=some (.cells #[.int .u8 d.k,.string d.t,.int .i64 d.b,.int .i64 d.i,.bool d.e] 151 (0,0))/\w'.cell? ⟨g,1,none⟩=some (.int .i64 (c.op:Nat))):=by
  have:=kR d aw W1;rw[F.1]at this;refine this.mono ?_;rintro e w'⟨rfl,O⟩;exact⟨rfl,ai.below O,af an O,(h1.below O).c1⟩
 have ar:Hid (∀V,T9 own W V g N c->Kb 113 #[.pointer (some ⟨g,0,none⟩),.agg #[.int .u8 d.k,.string d.t,.int .i64 d.b,.int .i64 d.i,.bool d.e]] V fun e w'=>e=.returned (.tuple #[])/\Hid (∃c1 G,T9 own W w' g N c1/\c1.wl=G.reverse/\WI c1.m c1.tot c1.hl G (s.wt++[d]) (dn d.k s.dp)/\c1.op=dn d.k s.dp/\c1.pr=dL s.pr)):=fun V hV=>by
  refine(Gr hV d F.1 F.2 (by omega) rl az (fun b O=>?_) (by omega) (by omega)).mono ?_
  ·obtain⟨x,e1,_,e3,_⟩:=hw.wr.mem b O;exact⟨x,e1,e3⟩
  rintro e w'⟨rfl,nb,bf,ht⟩;have:=hw.take u.1 u.2 bf ad;exact⟨rfl,_,_,ht,rfl,this,by rw[ak],ay⟩
 have ap:Hid (∀V,(∃c1 G,T9 own W V g N c1/\c1.wl=G.reverse/\WI c1.m c1.tot c1.hl G (s.wt++[d]) (dn d.k s.dp)/\c1.op=dn d.k s.dp/\c1.pr=dL s.pr)->Kb 114 #[.pointer (some ⟨g,0,none⟩)] V fun e w'=>e=.returned (.tuple #[])/\Hid (∃c2 H,T9 own W w' g N c2/\c2.wl=H.reverse/\WI c2.m c2.tot c2.hl H (drn N s.pr (s.wt++[d])).2 (dn d.k s.dp)/\c2.op=dn d.k s.dp/\pre s.pr.sk.out c2.pr=(drn N s.pr (s.wt++[d])).1/\(∃U,Bp c2.pr U/\U<=2147483647))/\(∀k,w'.frozen? ⟨g,k,none⟩=false)):=fun V ⟨c1,G,t1,t2,t3,t4,t5⟩=>by
  have bc:ef ⟨c1.pr,s.wt++[d],dn d.k s.dp,false⟩ (T+ud d) (C+1):=by rw[t5];exact I.cut
  refine(jK t1 (t3.hi.it al) bc hT hC hN).mono ?_;rintro e w'⟨rfl,ht⟩;obtain⟨q1,q2,q3,q4⟩:=wa hN c1.hl (s.wt++[d]) s.pr t3 (uN hS u) (ah.app [d]);have ax:=om s.pr.sk.out N c1.tot c1.m c1.hl (dL s.pr);rw[vh]at ax;rw[ax]at q1 q2;refine⟨rfl,⟨_,G,ht,t2,?_,t4,?_,?_⟩,ht.cc.2.2.2.2.2.1⟩
  ·simp only[t5];exact q2
  ·simp only[t5];exact q1
  ·have bd:=ef.drn N _ _ I;obtain⟨U,u1,u2,_⟩:=bd;simp only at u1 u2;refine⟨U,?_,by omega⟩;simp only[t5];have u3:=u1.cut;rw[<-q1,vT]at u3;have u4:=u1.out;rw[<-q1]at u4;have u5:((pre s.pr.sk.out (fU N c1.tot c1.m (dL s.pr) c1.hl).1).sk.out).length=s.pr.sk.out.length+(fU N c1.tot c1.m (dL s.pr) c1.hl).1.sk.out.length:=by simp[pre]
   rw[u5]at u4;refine⟨?_,u3.col,u3.ind,u3.ar,u3.wt⟩;have u6:(pre s.pr.sk.out (fU N c1.tot c1.m (dL s.pr) c1.hl).1).sk.wait=(fU N c1.tot c1.m (dL s.pr) c1.hl).1.sk.wait:=rfl;have u7:(pre s.pr.sk.out (fU N c1.tot c1.m (dL s.pr) c1.hl).1).sk.fresh=(fU N c1.tot c1.m (dL s.pr) c1.hl).1.sk.fresh:=rfl;have u8:(pre s.pr.sk.out (fU N c1.tot c1.m (dL s.pr) c1.hl).1).sk.col=(fU N c1.tot c1.m (dL s.pr) c1.hl).1.sk.col:=rfl;rw[u6,u7,u8]at u4;omega
 have au:Hid (∀V,(∃c2 H,T9 own W V g N c2/\c2.wl=H.reverse/\WI c2.m c2.tot c2.hl H (drn N s.pr (s.wt++[d])).2 (dn d.k s.dp)/\c2.op=dn d.k s.dp/\pre s.pr.sk.out c2.pr=(drn N s.pr (s.wt++[d])).1/\(∃U,Bp c2.pr U/\U<=2147483647))->Kb 115 #[.pointer (some ⟨g,7,none⟩)] V fun e w'=>e=.returned (.string ⟨((drn N s.pr (s.wt++[d])).1.sk.out.drop s.pr.sk.out.length).toArray⟩)/\Hid (∃c',T9 own W w' g N c'/\(∃J,c'.wl=J.reverse/\WI c'.m c'.tot c'.hl J (drn N s.pr (s.wt++[d])).2 (dn d.k s.dp))/\c'.op=dn d.k s.dp/\c'.pr=dL (drn N s.pr (s.wt++[d])).1)):=fun V ⟨c2,H,t1,t2,t3,t4,t5,U,t6,t7⟩=>by
  refine(zm t1 t6 t7).mono ?_;rintro e w'⟨rfl,ht⟩;refine⟨?_,_,ht,⟨H,t2,t3⟩,t4,?_⟩
  ·rw[<-t5];have:(pre s.pr.sk.out c2.pr).sk.out=s.pr.sk.out++c2.pr.sk.out:=rfl;rw[this,List.drop_left]
  ·rw[<-t5,vT];rfl
 have ab:Hid (sa N (l++[d]) ⟨(drn N s.pr (s.wt++[d])).1,(drn N s.pr (s.wt++[d])).2,dn d.k s.dp,false⟩/\Fe (drn N s.pr (s.wt++[d])).1 (drn N s.pr (s.wt++[d])).2):=by
  have hp:=Dy hN hS u;rw[M]at hp;refine⟨hp.2,?_⟩
  have:∀(v:List Dc) (p:Pr),sa N (l++[d]) ⟨p,v,dn d.k s.dp,false⟩->Fe p v->Fe (drn N p v).1 (drn N p v).2:=by
   intro v
   induction v with
   |nil=>intro p _ hF;exact hF
   |cons x r ih=>
    intro p hS hF;rw[drn]
    split
    ·rename_i hs
     obtain⟨bb,be,bj,h7⟩:=zK hN hS;have hp:=oi hN (r:=r) (rest:=bb) be hF;refine ih _ (qd hN hS hs) ?_;rw[<-hp];refine tX hF (bj x Ko) (h7 x r rfl) (fun h6 ba=>?_);have hc:=(uG (N:=N) hF).symm.trans hs;unfold pD at hc;have h3:¬x.k=3:=by omega
     simp[ba,h6]at hc;have es:sc x r=r.foldl fq ⟨0,1,false⟩:=by unfold sc;rw[Kd h6]
     rw[es]at hc;exact vM r 0 1 hc
    ·exact hF
  exact this _ _ (uN hS u) (ah.app [d])
 have av:=ku aa;have ac:Hid (s.told ⟨(drn N s.pr (s.wt++[d])).1,(drn N s.pr (s.wt++[d])).2,dn d.k s.dp,false⟩=(drn N s.pr (s.wt++[d])).1.sk.out.drop s.pr.sk.out.length):=rfl;obtain⟨y0,y1,y2,y3,y4⟩:=fD an;have ag:d.k=7->¬(c.op=0):=fun e e2=>F.2 ⟨e,e2⟩
 clear aa h h1 aj an aw ai M hw az ak ay O hS ah F u I ae al ad bg bh bi
 generalize(drn N s.pr (s.wt++[d])).1.sk.out.drop s.pr.sk.out.length=OO at *
 by_cases h7:d.k=7
 ·have q0:((c.op:Int)==0)=false:=by have:=ag h7;simp;omega
  obtain⟨dk,dt,db,di,de⟩:=d
  dsimp only[Dc.v]at *
  subst h7;clear ag
  go_enter func76,ntmps76
  go_wp2_with fail
  rw[av.out];refine HR.out.mono ?_;rintro e w1⟨rfl,rfl⟩
  go_wp2_with fail
  refine aq.out.mono ?_;rintro e w2⟨rfl,H2,b2,t2⟩;clear y0 y1 y2 y3 y4;obtain⟨y0,y1,y2,y3,y4⟩:=fD b2;clear b2
  go_wp2_with fail
  refine(ar.out _ H2.out).mono ?_;rintro e w3⟨rfl,H3⟩;clear y0 y1 y2 y3 y4
  go_wp2_with fail
  refine(ap.out _ H3.out).mono ?_;rintro e w4⟨rfl,H4,f4⟩
  go_wp2_with fail
  refine(au.out _ H4.out).mono ?_;rintro e w5⟨rfl,H5⟩
  go_wp2_with fail
  go_ret2
  obtain⟨c',r1,r2,r3,r4⟩:=H5.out;exact⟨by rw[ac.out];rfl,c',r1,r2,r3,r4,ab.out⟩
 ·have q7:(d.k==7)=false:=by simpa using h7
  obtain⟨dk,dt,db,di,de⟩:=d
  dsimp only[Dc.v]at *
  clear ag
  go_enter func76,ntmps76
  go_wp2_with fail
  rw[av.out];refine HR.out.mono ?_;rintro e w1⟨rfl,rfl⟩
  go_wp2_with fail
  refine aq.out.mono ?_;rintro e w2⟨rfl,H2,b2,t2⟩;clear y0 y1 y2 y3 y4;obtain⟨y0,y1,y2,y3,y4⟩:=fD b2;clear b2
  go_wp2_with fail
  refine(ar.out _ H2.out).mono ?_;rintro e w3⟨rfl,H3⟩;clear y0 y1 y2 y3 y4
  go_wp2_with fail
  refine(ap.out _ H3.out).mono ?_;rintro e w4⟨rfl,H4,f4⟩
  go_wp2_with fail
  refine(au.out _ H4.out).mono ?_;rintro e w5⟨rfl,H5⟩
  go_wp2_with fail
  go_ret2
  obtain⟨c',r1,r2,r3,r4⟩:=H5.out;exact⟨by rw[ac.out];rfl,c',r1,r2,r3,r4,ab.out⟩
end
def JW:Array Value:=#[.bool true,.int .i64 0,.int .i64 0,.pointer none,.int .i64 0,.pointer none,.int .i64 0,.int .i64 0,.pointer none,.int .i64 0,.bool false,.bool false,.slice none 0 0,.bool false]
def wipe (w:World) (g:Nat):World:=(((((((((((((w.setCell ⟨g,0,none⟩ (.bool true)).setCell ⟨g,1,none⟩ (.int .i64 0)).setCell ⟨g,2,none⟩ (.int .i64 0)).setCell ⟨g,3,none⟩ (.pointer none)).setCell ⟨g,4,none⟩ (.int .i64 0)).setCell ⟨g,5,none⟩ (.pointer none)).setCell ⟨g,6,none⟩ (.int .i64 0)).setCell ⟨g,7,none⟩ (.int .i64 0)).setCell ⟨g,8,none⟩ (.pointer none)).setCell ⟨g,9,none⟩ (.int .i64 0)).setCell ⟨g,10,none⟩ (.bool false)).setCell ⟨g,11,none⟩ (.bool false)).setCell ⟨g,12,none⟩ (.slice none 0 0)).setCell ⟨g,13,none⟩ (.bool false)
theorem zd (w:World) (g T:Nat) (a0 a1 a2 a3 a4 a5 O M J I H G F u:Value) (h:w.heap[g]?=some (.cells #[a0,a1,a2,a3,a4,a5,O,M,J,I,H,G,F,u] T (0,0))):(wipe w g).heap[g]?=some (.cells JW T (0,0)):=by
 have h0:(w.setCell ⟨g,0,none⟩ (.bool true)).heap[g]?=some (.cells #[.bool true,a1,a2,a3,a4,a5,O,M,J,I,H,G,F,u] T (0,0)):=ab h 0 _;have h1:((w.setCell ⟨g,0,none⟩ (.bool true)).setCell ⟨g,1,none⟩ (.int .i64 0)).heap[g]?=some (.cells #[.bool true,.int .i64 0,a2,a3,a4,a5,O,M,J,I,H,G,F,u] T (0,0)):=ab h0 1 _;have h2:(((w.setCell ⟨g,0,none⟩ (.bool true)).setCell ⟨g,1,none⟩ (.int .i64 0)).setCell ⟨g,2,none⟩ (.int .i64 0)).heap[g]?=some (.cells #[.bool true,.int .i64 0,.int .i64 0,a3,a4,a5,O,M,J,I,H,G,F,u] T (0,0)):=ab h1 2 _;have h3:((((w.setCell ⟨g,0,none⟩ (.bool true)).setCell ⟨g,1,none⟩ (.int .i64 0)).setCell ⟨g,2,none⟩ (.int .i64 0)).setCell ⟨g,3,none⟩ (.pointer none)).heap[g]?=some (.cells #[.bool true,.int .i64 0,.int .i64 0,.pointer none,a4,a5,O,M,J,I,H,G,F,u] T (0,0)):=ab h2 3 _;have h4:(((((w.setCell ⟨g,0,none⟩ (.bool true)).setCell ⟨g,1,none⟩ (.int .i64 0)).setCell ⟨g,2,none⟩ (.int .i64 0)).setCell ⟨g,3,none⟩ (.pointer none)).setCell ⟨g,4,none⟩ (.int .i64 0)).heap[g]?=some (.cells #[.bool true,.int .i64 0,.int .i64 0,.pointer none,.int .i64 0,a5,O,M,J,I,H,G,F,u] T (0,0)):=ab h3 4 _;have h5:((((((w.setCell ⟨g,0,none⟩ (.bool true)).setCell ⟨g,1,none⟩ (.int .i64 0)).setCell ⟨g,2,none⟩ (.int .i64 0)).setCell ⟨g,3,none⟩ (.pointer none)).setCell ⟨g,4,none⟩ (.int .i64 0)).setCell ⟨g,5,none⟩ (.pointer none)).heap[g]?=some (.cells #[.bool true,.int .i64 0,.int .i64 0,.pointer none,.int .i64 0,.pointer none,O,M,J,I,H,G,F,u] T (0,0)):=ab h4 5 _;have h6:(((((((w.setCell ⟨g,0,none⟩ (.bool true)).setCell ⟨g,1,none⟩ (.int .i64 0)).setCell ⟨g,2,none⟩ (.int .i64 0)).setCell ⟨g,3,none⟩ (.pointer none)).setCell ⟨g,4,none⟩ (.int .i64 0)).setCell ⟨g,5,none⟩ (.pointer none)).setCell ⟨g,6,none⟩ (.int .i64 0)).heap[g]?=some (.cells #[.bool true,.int .i64 0,.int .i64 0,.pointer none,.int .i64 0,.pointer none,.int .i64 0,M,J,I,H,G,F,u] T (0,0)):=ab h5 6 _;have h7:((((((((w.setCell ⟨g,0,none⟩ (.bool true)).setCell ⟨g,1,none⟩ (.int .i64 0)).setCell ⟨g,2,none⟩ (.int .i64 0)).setCell ⟨g,3,none⟩ (.pointer none)).setCell ⟨g,4,none⟩ (.int .i64 0)).setCell ⟨g,5,none⟩ (.pointer none)).setCell ⟨g,6,none⟩ (.int .i64 0)).setCell ⟨g,7,none⟩ (.int .i64 0)).heap[g]?=some (.cells #[.bool true,.int .i64 0,.int .i64 0,.pointer none,.int .i64 0,.pointer none,.int .i64 0,.int .i64 0,J,I,H,G,F,u] T (0,0)):=ab h6 7 _;have h8:(((((((((w.setCell ⟨g,0,none⟩ (.bool true)).setCell ⟨g,1,none⟩ (.int .i64 0)).setCell ⟨g,2,none⟩ (.int .i64 0)).setCell ⟨g,3,none⟩ (.pointer none)).setCell ⟨g,4,none⟩ (.int .i64 0)).setCell ⟨g,5,none⟩ (.pointer none)).setCell ⟨g,6,none⟩ (.int .i64 0)).setCell ⟨g,7,none⟩ (.int .i64 0)).setCell ⟨g,8,none⟩ (.pointer none)).heap[g]?=some (.cells #[.bool true,.int .i64 0,.int .i64 0,.pointer none,.int .i64 0,.pointer none,.int .i64 0,.int .i64 0,.pointer none,I,H,G,F,u] T (0,0)):=ab h7 8 _;have h9:((((((((((w.setCell ⟨g,0,none⟩ (.bool true)).setCell ⟨g,1,none⟩ (.int .i64 0)).setCell ⟨g,2,none⟩ (.int .i64 0)).setCell ⟨g,3,none⟩ (.pointer none)).setCell ⟨g,4,none⟩ (.int .i64 0)).setCell ⟨g,5,none⟩ (.pointer none)).setCell ⟨g,6,none⟩ (.int .i64 0)).setCell ⟨g,7,none⟩ (.int .i64 0)).setCell ⟨g,8,none⟩ (.pointer none)).setCell ⟨g,9,none⟩ (.int .i64 0)).heap[g]?=some (.cells #[.bool true,.int .i64 0,.int .i64 0,.pointer none,.int .i64 0,.pointer none,.int .i64 0,.int .i64 0,.pointer none,.int .i64 0,H,G,F,u] T (0,0)):=ab h8 9 _;have aa:(((((((((((w.setCell ⟨g,0,none⟩ (.bool true)).setCell ⟨g,1,none⟩ (.int .i64 0)).setCell ⟨g,2,none⟩ (.int .i64 0)).setCell ⟨g,3,none⟩ (.pointer none)).setCell ⟨g,4,none⟩ (.int .i64 0)).setCell ⟨g,5,none⟩ (.pointer none)).setCell ⟨g,6,none⟩ (.int .i64 0)).setCell ⟨g,7,none⟩ (.int .i64 0)).setCell ⟨g,8,none⟩ (.pointer none)).setCell ⟨g,9,none⟩ (.int .i64 0)).setCell ⟨g,10,none⟩ (.bool false)).heap[g]?=some (.cells #[.bool true,.int .i64 0,.int .i64 0,.pointer none,.int .i64 0,.pointer none,.int .i64 0,.int .i64 0,.pointer none,.int .i64 0,.bool false,G,F,u] T (0,0)):=ab h9 10 _;have ac:((((((((((((w.setCell ⟨g,0,none⟩ (.bool true)).setCell ⟨g,1,none⟩ (.int .i64 0)).setCell ⟨g,2,none⟩ (.int .i64 0)).setCell ⟨g,3,none⟩ (.pointer none)).setCell ⟨g,4,none⟩ (.int .i64 0)).setCell ⟨g,5,none⟩ (.pointer none)).setCell ⟨g,6,none⟩ (.int .i64 0)).setCell ⟨g,7,none⟩ (.int .i64 0)).setCell ⟨g,8,none⟩ (.pointer none)).setCell ⟨g,9,none⟩ (.int .i64 0)).setCell ⟨g,10,none⟩ (.bool false)).setCell ⟨g,11,none⟩ (.bool false)).heap[g]?=some (.cells #[.bool true,.int .i64 0,.int .i64 0,.pointer none,.int .i64 0,.pointer none,.int .i64 0,.int .i64 0,.pointer none,.int .i64 0,.bool false,.bool false,F,u] T (0,0)):=ab aa 11 _;have ad:(((((((((((((w.setCell ⟨g,0,none⟩ (.bool true)).setCell ⟨g,1,none⟩ (.int .i64 0)).setCell ⟨g,2,none⟩ (.int .i64 0)).setCell ⟨g,3,none⟩ (.pointer none)).setCell ⟨g,4,none⟩ (.int .i64 0)).setCell ⟨g,5,none⟩ (.pointer none)).setCell ⟨g,6,none⟩ (.int .i64 0)).setCell ⟨g,7,none⟩ (.int .i64 0)).setCell ⟨g,8,none⟩ (.pointer none)).setCell ⟨g,9,none⟩ (.int .i64 0)).setCell ⟨g,10,none⟩ (.bool false)).setCell ⟨g,11,none⟩ (.bool false)).setCell ⟨g,12,none⟩ (.slice none 0 0)).heap[g]?=some (.cells #[.bool true,.int .i64 0,.int .i64 0,.pointer none,.int .i64 0,.pointer none,.int .i64 0,.int .i64 0,.pointer none,.int .i64 0,.bool false,.bool false,.slice none 0 0,u] T (0,0)):=ab ac 12 _;have ae:((((((((((((((w.setCell ⟨g,0,none⟩ (.bool true)).setCell ⟨g,1,none⟩ (.int .i64 0)).setCell ⟨g,2,none⟩ (.int .i64 0)).setCell ⟨g,3,none⟩ (.pointer none)).setCell ⟨g,4,none⟩ (.int .i64 0)).setCell ⟨g,5,none⟩ (.pointer none)).setCell ⟨g,6,none⟩ (.int .i64 0)).setCell ⟨g,7,none⟩ (.int .i64 0)).setCell ⟨g,8,none⟩ (.pointer none)).setCell ⟨g,9,none⟩ (.int .i64 0)).setCell ⟨g,10,none⟩ (.bool false)).setCell ⟨g,11,none⟩ (.bool false)).setCell ⟨g,12,none⟩ (.slice none 0 0)).setCell ⟨g,13,none⟩ (.bool false)).heap[g]?=some (.cells #[.bool true,.int .i64 0,.int .i64 0,.pointer none,.int .i64 0,.pointer none,.int .i64 0,.int .i64 0,.pointer none,.int .i64 0,.bool false,.bool false,.slice none 0 0,.bool false] T (0,0)):=ab ad 13 _;exact ae
theorem C6 {own:Nat->Nat}{w:World}{g:Nat}(h:own g=2):bV (fun i=>i=2) own own w (wipe w g):=by
 have J:bV (fun i=>i=2) own own w w:=bV.refl _ _ _;have M:=J.trans (bV.set (P:=fun i=>i=2) (W:=w) (own:=own) h 0 (.bool true));have O:=M.trans (bV.set (P:=fun i=>i=2) (W:=(w.setCell ⟨g,0,none⟩ (.bool true))) (own:=own) h 1 (.int .i64 0));have f3:=O.trans (bV.set (P:=fun i=>i=2) (W:=((w.setCell ⟨g,0,none⟩ (.bool true)).setCell ⟨g,1,none⟩ (.int .i64 0))) (own:=own) h 2 (.int .i64 0));have f4:=f3.trans (bV.set (P:=fun i=>i=2) (W:=(((w.setCell ⟨g,0,none⟩ (.bool true)).setCell ⟨g,1,none⟩ (.int .i64 0)).setCell ⟨g,2,none⟩ (.int .i64 0))) (own:=own) h 3 (.pointer none));have f5:=f4.trans (bV.set (P:=fun i=>i=2) (W:=((((w.setCell ⟨g,0,none⟩ (.bool true)).setCell ⟨g,1,none⟩ (.int .i64 0)).setCell ⟨g,2,none⟩ (.int .i64 0)).setCell ⟨g,3,none⟩ (.pointer none))) (own:=own) h 4 (.int .i64 0));have f6:=f5.trans (bV.set (P:=fun i=>i=2) (W:=(((((w.setCell ⟨g,0,none⟩ (.bool true)).setCell ⟨g,1,none⟩ (.int .i64 0)).setCell ⟨g,2,none⟩ (.int .i64 0)).setCell ⟨g,3,none⟩ (.pointer none)).setCell ⟨g,4,none⟩ (.int .i64 0))) (own:=own) h 5 (.pointer none));have f7:=f6.trans (bV.set (P:=fun i=>i=2) (W:=((((((w.setCell ⟨g,0,none⟩ (.bool true)).setCell ⟨g,1,none⟩ (.int .i64 0)).setCell ⟨g,2,none⟩ (.int .i64 0)).setCell ⟨g,3,none⟩ (.pointer none)).setCell ⟨g,4,none⟩ (.int .i64 0)).setCell ⟨g,5,none⟩ (.pointer none))) (own:=own) h 6 (.int .i64 0));have f8:=f7.trans (bV.set (P:=fun i=>i=2) (W:=(((((((w.setCell ⟨g,0,none⟩ (.bool true)).setCell ⟨g,1,none⟩ (.int .i64 0)).setCell ⟨g,2,none⟩ (.int .i64 0)).setCell ⟨g,3,none⟩ (.pointer none)).setCell ⟨g,4,none⟩ (.int .i64 0)).setCell ⟨g,5,none⟩ (.pointer none)).setCell ⟨g,6,none⟩ (.int .i64 0))) (own:=own) h 7 (.int .i64 0));have f9:=f8.trans (bV.set (P:=fun i=>i=2) (W:=((((((((w.setCell ⟨g,0,none⟩ (.bool true)).setCell ⟨g,1,none⟩ (.int .i64 0)).setCell ⟨g,2,none⟩ (.int .i64 0)).setCell ⟨g,3,none⟩ (.pointer none)).setCell ⟨g,4,none⟩ (.int .i64 0)).setCell ⟨g,5,none⟩ (.pointer none)).setCell ⟨g,6,none⟩ (.int .i64 0)).setCell ⟨g,7,none⟩ (.int .i64 0))) (own:=own) h 8 (.pointer none));have u:=f9.trans (bV.set (P:=fun i=>i=2) (W:=(((((((((w.setCell ⟨g,0,none⟩ (.bool true)).setCell ⟨g,1,none⟩ (.int .i64 0)).setCell ⟨g,2,none⟩ (.int .i64 0)).setCell ⟨g,3,none⟩ (.pointer none)).setCell ⟨g,4,none⟩ (.int .i64 0)).setCell ⟨g,5,none⟩ (.pointer none)).setCell ⟨g,6,none⟩ (.int .i64 0)).setCell ⟨g,7,none⟩ (.int .i64 0)).setCell ⟨g,8,none⟩ (.pointer none))) (own:=own) h 9 (.int .i64 0));have F:=u.trans (bV.set (P:=fun i=>i=2) (W:=((((((((((w.setCell ⟨g,0,none⟩ (.bool true)).setCell ⟨g,1,none⟩ (.int .i64 0)).setCell ⟨g,2,none⟩ (.int .i64 0)).setCell ⟨g,3,none⟩ (.pointer none)).setCell ⟨g,4,none⟩ (.int .i64 0)).setCell ⟨g,5,none⟩ (.pointer none)).setCell ⟨g,6,none⟩ (.int .i64 0)).setCell ⟨g,7,none⟩ (.int .i64 0)).setCell ⟨g,8,none⟩ (.pointer none)).setCell ⟨g,9,none⟩ (.int .i64 0))) (own:=own) h 10 (.bool false));have G:=F.trans (bV.set (P:=fun i=>i=2) (W:=(((((((((((w.setCell ⟨g,0,none⟩ (.bool true)).setCell ⟨g,1,none⟩ (.int .i64 0)).setCell ⟨g,2,none⟩ (.int .i64 0)).setCell ⟨g,3,none⟩ (.pointer none)).setCell ⟨g,4,none⟩ (.int .i64 0)).setCell ⟨g,5,none⟩ (.pointer none)).setCell ⟨g,6,none⟩ (.int .i64 0)).setCell ⟨g,7,none⟩ (.int .i64 0)).setCell ⟨g,8,none⟩ (.pointer none)).setCell ⟨g,9,none⟩ (.int .i64 0)).setCell ⟨g,10,none⟩ (.bool false))) (own:=own) h 11 (.bool false));have H:=G.trans (bV.set (P:=fun i=>i=2) (W:=((((((((((((w.setCell ⟨g,0,none⟩ (.bool true)).setCell ⟨g,1,none⟩ (.int .i64 0)).setCell ⟨g,2,none⟩ (.int .i64 0)).setCell ⟨g,3,none⟩ (.pointer none)).setCell ⟨g,4,none⟩ (.int .i64 0)).setCell ⟨g,5,none⟩ (.pointer none)).setCell ⟨g,6,none⟩ (.int .i64 0)).setCell ⟨g,7,none⟩ (.int .i64 0)).setCell ⟨g,8,none⟩ (.pointer none)).setCell ⟨g,9,none⟩ (.int .i64 0)).setCell ⟨g,10,none⟩ (.bool false)).setCell ⟨g,11,none⟩ (.bool false))) (own:=own) h 12 (.slice none 0 0));have I:=H.trans (bV.set (P:=fun i=>i=2) (W:=(((((((((((((w.setCell ⟨g,0,none⟩ (.bool true)).setCell ⟨g,1,none⟩ (.int .i64 0)).setCell ⟨g,2,none⟩ (.int .i64 0)).setCell ⟨g,3,none⟩ (.pointer none)).setCell ⟨g,4,none⟩ (.int .i64 0)).setCell ⟨g,5,none⟩ (.pointer none)).setCell ⟨g,6,none⟩ (.int .i64 0)).setCell ⟨g,7,none⟩ (.int .i64 0)).setCell ⟨g,8,none⟩ (.pointer none)).setCell ⟨g,9,none⟩ (.int .i64 0)).setCell ⟨g,10,none⟩ (.bool false)).setCell ⟨g,11,none⟩ (.bool false)).setCell ⟨g,12,none⟩ (.slice none 0 0))) (own:=own) h 13 (.bool false));exact I
theorem FM (g:Nat) (W:World) (h:W.cell? ⟨g,0,none⟩=some (.bool true)):Kb 79 #[.pointer (some ⟨g,0,none⟩)] W fun e w'=>e=.returned (.tuple #[.string ⟨#[]⟩,.int .i64 4])/\w'=W:=by
 have u:=ku (jr g true _ h);clear h
 go_enter func79,ntmps79
 go_wp2_with fail
 refine u.out.mono ?_;rintro e F⟨rfl,rfl⟩
 go_wp2_with fail
 go_ret2
 exact⟨rfl,rfl⟩
section
variable {own:Nat->Nat} {W:World} {g N gs qh qw:Nat} {v:Value} {csh csw:List (Nat × List Nat)} {c:CS}
theorem FK (h:ST own W g N gs qh qw v csh csw c) (F:0<c.op):Kb 79 #[.pointer (some ⟨g,0,none⟩)] W fun e w'=>e=.returned (.tuple #[.string ⟨#[]⟩,.int .i64 70])/\w'=W:=by
 have u:=ku (kh h.t9);have c1:=h.c1;have G:(0:Int)<(c.op:Int):=by omega
 clear h
 go_enter func79,ntmps79
 go_wp2_with fail
 refine u.out.mono ?_;rintro e H⟨rfl,rfl⟩
 go_wp2_with fail
 go_ret2
 exact⟨rfl,rfl⟩
theorem T9.wipe {c:CS}(h:T9 own W V g N c):∃n gs qh qw tot i G H v F hc wc o,(V.cell? ⟨g,0,none⟩=some (.bool false)/\V.cell? ⟨g,1,none⟩=some (.int .i64 o)/\V.cell? ⟨g,2,none⟩=some (.int .i64 tot)/\V.cell? ⟨g,3,none⟩=some (.pointer qh)/\V.cell? ⟨g,4,none⟩=some (.int .i64 hc)/\V.cell? ⟨g,5,none⟩=some (.pointer qw)/\V.cell? ⟨g,6,none⟩=some (.int .i64 wc)/\V.cell? ⟨g,7,none⟩=some (.int .i64 n)/\V.cell? ⟨g,8,none⟩=some (.pointer gs)/\V.cell? ⟨g,9,none⟩=some (.int .i64 i)/\V.cell? ⟨g,10,none⟩=some (.bool G)/\V.cell? ⟨g,11,none⟩=some (.bool H)/\V.cell? ⟨g,12,none⟩=some v/\V.cell? ⟨g,13,none⟩=some (.bool F))/\V.heap[g]?=some (.cells #[.bool false,.int .i64 o,.int .i64 tot,.pointer qh,.int .i64 hc,.pointer qw,.int .i64 wc,.int .i64 n,.pointer gs,.int .i64 i,.bool G,.bool H,v,.bool F] 122 (0,0))/\(∃p l k,v=.slice p l k):=by
 obtain⟨o,gs,qh,qw,v,csh,csw,I,J⟩:=h;have u:=I.blk;obtain⟨p,k,e,_,_⟩:=az I.ar.1;exact⟨_,_,_,_,_,_,_,_,_,_,_,_,_,⟨aa u rfl,aa u rfl,aa u rfl,aa u rfl,aa u rfl,aa u rfl,aa u rfl,aa u rfl,aa u rfl,aa u rfl,aa u rfl,aa u rfl,aa u rfl,aa u rfl⟩,u,p,_,k,e⟩
set_option maxRecDepth 100000 in
theorem FL (h:ST own W g N gs qh qw v csh csw c) {s:S9}{T C:Nat}{rl:List Nat}(ag:c.wl=rl.reverse) (hw:WI c.m c.tot c.hl rl s.wt s.dp) (ae:c.op=s.dp) (h0:s.dp=0) (H:c.pr=dL s.pr) (I:ef s T C) (hT:T<=2147483647) (hC:C<=100000000) (hN:N<=4096)
  {l:List Dc} (hS:sa N l s) (ab:Fe s.pr s.wt) :
  Kb 79 #[.pointer (some ⟨g,0,none⟩)] W fun e w'=>e=.returned (.tuple #[.string ⟨(s.told (s.close N).1).toArray⟩,.int .i64 0])/\w'.heap[g]?=some (.cells JW 122 (0,0))/\∃own',Fz own own' W w':=by
 obtain⟨ap,aq,ar⟩:=I.rings hw hC
 have ad:s.close N=(⟨vW N s.pr s.wt,[],s.dp,true⟩,0):=by
  unfold S9.close;rw[IO (by rw[hS.cl];simp),IO (by omega)]
 rw[ad]
 have af:jc s.wt<=1000000000000000:=by
  have h1:=og s.wt I.rt;obtain⟨U,_,h2,_,h4⟩:=I;omega
 have M:cH 0 0 l=none:=by
  have:=oQ l [] 0 _ 0 hS.op;rw[KP]at this;rw[this,h0];rfl
 have aa:s.pr=gV N l (l.length-s.wt.length):=by
  have:=hS.pr [] (by rw[KP];exact M);rw[KP]at this;exact this
 rw[h0]at hw;obtain⟨F,ak⟩:=hw.close
 have hm:∀b∈rl,∃x,c.m b=some x/\(x.d.k=6\/x.d.k=3):=fun b I=>by
  obtain⟨x,e1,_,e3,_⟩:=hw.wr.mem b I;exact⟨x,e1,e3⟩
 have HR:Hid (Kb 111 #[.pointer (some ⟨g,0,none⟩)] W fun e w'=>e=.returned (.int .i64 0)/\w'=W):=kh h.t9;have c1:=h.c1;rw[ae,h0]at c1;have am:Hid (Kb 119 #[.pointer (some ⟨g,0,none⟩),.int .u8 7] W fun x w'=>x=.returned (.tuple #[])/\Hid (T9 own W w' g N { c with m:=(aP c.tot 7 c.m rl).1,wl:=(aP c.tot 7 c.m rl).2.reverse })):=qg rl h.t9 ag hm (by omega) 7 (by omega);have ai:aP c.tot 7 c.m rl=sett c.tot 7 c.m rl:=by unfold aP;rw[IO (by omega)]
 have ac:fU N c.tot (sett c.tot 7 c.m rl).1 s.pr c.hl=(vW N s.pr s.wt,[]):=by
  have:=wb hN M (tot:=c.tot) c.hl s.wt (l.length-s.wt.length) F (by omega) hS.wt.symm (by rw[<-aa];exact ab);rw[<-aa]at this;exact this
 have O:=om s.pr.sk.out N c.tot (sett c.tot 7 c.m rl).1 c.hl (dL s.pr);rw[vh,ac]at O
 have J:ef ⟨dL s.pr,s.wt,s.dp,false⟩ T C:=by
  have:ef ⟨s.pr,s.wt,s.dp,false⟩ T C:=I;exact this.cut
 have al:Hid (∀V,T9 own W V g N { c with m:=(aP c.tot 7 c.m rl).1,wl:=(aP c.tot 7 c.m rl).2.reverse }->Kb 114 #[.pointer (some ⟨g,0,none⟩)] V fun e w'=>e=.returned (.tuple #[])/\Hid (∃c2,T9 own W w' g N c2/\pre s.pr.sk.out c2.pr=vW N s.pr s.wt/\(∃U,Bp c2.pr U/\U<=2147483647))):=fun V hV=>by
  rw[ai]at hV;refine(jK hV (F.it af) (by rw[H];exact J) hT hC hN).mono ?_;rintro e w'⟨rfl,ht⟩;refine⟨rfl,_,ht,?_,?_⟩
  ·simp only[H];exact(Kw Prod.fst O).symm
  ·simp only[H]
   have hcut:∀(hl:List Nat) (v:List Dc) (p:Pr),HC (sett c.tot 7 c.m rl).1 hl v->ef ⟨p,v,s.dp,false⟩ T C->∃U,Bp (fU N c.tot (sett c.tot 7 c.m rl).1 p hl).1 U/\U<=2147483647:=by
    intro hl
    induction hl with
    |nil=>
     intro v p _ G;obtain⟨U,u1,u2,_⟩:=G;simp only at u1 u2;exact⟨U,u1,by omega⟩
    |cons b bs ih=>
     intro v p hh G;cases v with
     |nil=>exact hh.elim
     |cons d r=>
      obtain⟨⟨ah,st,e1,e2⟩,e3⟩:=hh;rw[fU,e1];simp only
      split
      ·exact ih r _ e3 (G.step N _).2.2.2.2
      ·obtain⟨U,u1,u2,_⟩:=G;simp only at u1 u2;exact⟨U,u1,by omega⟩
   exact hcut c.hl s.wt (dL s.pr) F J
 have an:Hid (∀V,(∃c2,T9 own W V g N c2/\pre s.pr.sk.out c2.pr=vW N s.pr s.wt/\(∃U,Bp c2.pr U/\U<=2147483647))->Kb 115 #[.pointer (some ⟨g,7,none⟩)] V fun e w'=>e=.returned (.string ⟨((vW N s.pr s.wt).sk.out.drop s.pr.sk.out.length).toArray⟩)/\Hid (∃c',T9 own W w' g N c')):=fun V ⟨c2,t1,t5,U,t6,t7⟩=>by
  refine(zm t1 t6 t7).mono ?_;rintro e w'⟨rfl,ht⟩;refine⟨?_,_,ht⟩;rw[<-t5];have:(pre s.pr.sk.out c2.pr).sk.out=s.pr.sk.out++c2.pr.sk.out:=rfl;rw[this,List.drop_left]
 have aj:Hid (s.told ⟨vW N s.pr s.wt,[],s.dp,true⟩=(vW N s.pr s.wt).sk.out.drop s.pr.sk.out.length):=rfl;clear h hw ag ae H I hS ab ad af M aa F ak hm ai ac O J ap aq ar
 generalize(vW N s.pr s.wt).sk.out.drop s.pr.sk.out.length=OO at *
 go_enter func79,ntmps79
 go_wp2_with fail
 refine HR.out.mono ?_;rintro e w1⟨rfl,rfl⟩
 go_wp2_with fail
 refine am.out.mono ?_;rintro e w2⟨rfl,H2⟩
 go_wp2_with fail
 refine(al.out _ H2.out).mono ?_;rintro e w3⟨rfl,H3⟩
 go_wp2_with fail
 refine(an.out _ H3.out).mono ?_;rintro e w4⟨rfl,H4⟩;obtain⟨c',h4⟩:=H4.out;obtain⟨zn,zgs,zqh,zqw,ztot,zi,zev,zft,zv,zen,zhc,zwc,zo,⟨z0,z1,z2,z3,z4,z5,z6,z7,z8,z9,z10,z11,z12,z13⟩,zb,zp,zl,zk,rfl⟩:=h4.wipe;have u:∀k,w4.frozen? ⟨g,k,none⟩=false:=h4.cc.2.2.2.2.2.1;have y0:=u 0;have y1:=u 1;have y2:=u 2;have y3:=u 3;have y4:=u 4;have y5:=u 5;have y6:=u 6;have y7:=u 7;have y8:=u 8;have y9:=u 9;have au:=u 10;have av:=u 11;have aw:=u 12;have ax:=u 13;have HB:=aK zb
 have HF:Hid (∃own',Fz own own' w1 w4/\own' g=2):=by
  obtain⟨o',_,_,_,_,_,_,k1,k2⟩:=h4;exact⟨o',k2,k1.lab⟩
 clear u zb h4 H4
 go_wp2_with fail
 go_ret2
 have E1:=zd w4 g _ _ _ _ _ _ _ _ _ _ _ _ _ _ _ HB.out;obtain⟨o',q1,q2⟩:=HF.out;have E2:Fz own o' w1 (wipe w4 g):=q1.trans ((C6 q2).fz (by omega));exact⟨by rw[aj.out];rfl,E1,o',E2⟩
end
theorem tA (w:World):Kb 50 #[] w fun e w'=>∃q,e=.returned (.agg #[.pointer (some ⟨q,0,none⟩),.int .i64 0])/\w.heap.size<=q/\w'.heap[q]?=some (.cells #[.int .i64 2097152,.slice none 0 0,.int .i64 0,.int .i64 0] 206 (0,0))/\Below w.heap.size w w':=by
 have F:Hid (∀V,Kb 82 #[.int .i64 2097152] V fun e w'=>e=.returned (.tuple #[.pointer (some ⟨V.heap.size,0,none⟩),.int .i64 0])/\w'=V.alloc (.cells #[.int .i64 2097152,.slice none 0 0,.int .i64 0,.int .i64 0] 206)):=fun V=>JO 2097152 V (by omega) (by omega)
 go_enter func50,ntmps50
 go_wp2_with(go_at_call 82;refine(F.out _).mono ?_;rintro e H⟨rfl,rfl⟩)
 refine Kv (v:=.agg #[.pointer (some ⟨w.heap.size+1,0,none⟩),.int .i64 0]) (by simp[results,Tryz.f50,go_sem]) rfl ?_;have G:=((gt w.heap.size w).alloc (ge _) (.cells #[.pointer (some ⟨w.heap.size+1,0,none⟩),.int .i64 0] 111)).alloc (by rw[Eq];omega) (.cells #[.int .i64 2097152,.slice none 0 0,.int .i64 0,.int .i64 0] 206);have u:=am (w.alloc (.cells #[.pointer (some ⟨w.heap.size+1,0,none⟩),.int .i64 0] 111)) (.cells #[.int .i64 2097152,.slice none 0 0,.int .i64 0,.int .i64 0] 206);rw[Eq]at u;exact⟨w.heap.size+1,rfl,by omega,u,G⟩
theorem qR (n:Int) (w:World):Kb 51 #[.int .i64 n] w fun e w'=>∃q,e=.returned (.agg #[.int .i64 n,.pointer (some ⟨q,0,none⟩),.int .i64 0,.bool false,.bool false,.slice none 0 0,.bool false])/\w.heap.size<=q/\w'.heap[q]?=some (.cells (sk false 0 0 (.slice none 0 0) (.slice none 0 0)) 211 (0,0))/\Below w.heap.size w w':=by
 have F:Hid (∀V,Kb 83 #[] V fun e w'=>e=.returned (.pointer (some ⟨V.heap.size,0,none⟩))/\w'=V.alloc (.cells (sk false 0 0 (.slice none 0 0) (.slice none 0 0)) 211)):=fun V=>oA V
 generalize H:sk false 0 0 (.slice none 0 0) (.slice none 0 0)=K at *
 go_enter func51,ntmps51
 go_wp2_with(go_at_call 83;refine(F.out _).mono ?_;rintro e I⟨rfl,rfl⟩)
 refine Kv (v:=.agg #[.int .i64 n,.pointer (some ⟨w.heap.size+1,0,none⟩),.int .i64 0,.bool false,.bool false,.slice none 0 0,.bool false]) (by simp[results,Tryz.f51,go_sem]) rfl ?_;have G:=((gt w.heap.size w).alloc (ge _) (.cells #[.int .i64 n,.pointer (some ⟨w.heap.size+1,0,none⟩),.int .i64 0,.bool false,.bool false,.slice none 0 0,.bool false] 119)).alloc (by rw[Eq];omega) (.cells K 211);have u:=am (w.alloc (.cells #[.int .i64 n,.pointer (some ⟨w.heap.size+1,0,none⟩),.int .i64 0,.bool false,.bool false,.slice none 0 0,.bool false] 119)) (.cells K 211);rw[Eq]at u;exact⟨w.heap.size+1,rfl,by omega,u,G⟩
def cs0:CS:=⟨0,0,[],[],fun _=>none,qD⟩
theorem IJ (n:Nat) (h1:1<=n) (h2:n<=4096) (W:World):Kb 20 #[.int .i64 (n:Int)] W fun e w'=>∃g u H gs,e=.returned (.tuple #[.pointer (some ⟨g,0,none⟩),.int .i64 0])/\(W.heap.size<=u/\u<H/\H<gs/\gs<g)/\w'.heap[g]?=some (.cells #[.bool false,.int .i64 0,.int .i64 0,.pointer (some ⟨u,0,none⟩),.int .i64 0,.pointer (some ⟨H,0,none⟩),.int .i64 0,.int .i64 (n:Int),.pointer (some ⟨gs,0,none⟩),.int .i64 0,.bool false,.bool false,.slice none 0 0,.bool false] 122 (0,0)) /\
  w'.heap[u]?=some (.cells #[.int .i64 2097152,.slice none 0 0,.int .i64 0,.int .i64 0] 206 (0,0))/\w'.heap[H]?=some (.cells #[.int .i64 2097152,.slice none 0 0,.int .i64 0,.int .i64 0] 206 (0,0))/\w'.heap[gs]?=some (.cells (sk false 0 0 (.slice none 0 0) (.slice none 0 0)) 211 (0,0))/\Kc W w':=by
 have q1:decide ((n:Int)<1)=false:=by simp;omega
 have q2:decide (4096<(n:Int))=false:=by simp;omega
 have q3:¬((n:Int)<1):=by omega
 have q4:¬(4096<(n:Int)):=by omega
 have HN:=ku tA;have HP:=ku (qR n)
 generalize hK:sk false 0 0 (.slice none 0 0) (.slice none 0 0)=K at *
 go_enter func20,ntmps20
 go_wp2_with fail
 refine(HN.out _).mono ?_;rintro e O⟨u,rfl,I,F,G⟩;have HA:Hid (W.heap.size<=u/\O.heap[u]?=some (.cells #[.int .i64 2097152,.slice none 0 0,.int .i64 0,.int .i64 0] 206 (0,0))/\Kc W O):=⟨I,F,G⟩;clear I F G
 go_wp2_with fail
 refine(HN.out _).mono ?_;rintro e w2⟨H,rfl,I,F,G⟩;have HB:Hid (O.heap.size<=H/\w2.heap[H]?=some (.cells #[.int .i64 2097152,.slice none 0 0,.int .i64 0,.int .i64 0] 206 (0,0))/\Kc O w2):=⟨I,F,G⟩;clear I F G
 go_wp2_with fail
 refine(HP.out _).mono ?_;rintro e M⟨gs,rfl,I,F,G⟩;have HC:Hid (w2.heap.size<=gs/\M.heap[gs]?=some (.cells K 211 (0,0))/\Kc w2 M):=⟨I,F,G⟩;clear I F G
 go_wp2_with fail
 go_ret2
 obtain⟨I,F,G⟩:=HA.out;obtain⟨b1,b2,b3⟩:=HB.out;obtain⟨c1,c2,c3⟩:=HC.out;have la:=ai F;have lb:=ai b2;have lc:=ai c2;have J:=(gt M.heap.size M).alloc (ge _) (.cells #[.bool false,.int .i64 0,.int .i64 0,.pointer (some ⟨u,0,none⟩),.int .i64 0,.pointer (some ⟨H,0,none⟩),.int .i64 0,.int .i64 (n:Int),.pointer (some ⟨gs,0,none⟩),.int .i64 0,.bool false,.bool false,.slice none 0 0,.bool false] 122);have s1:=G.size;have s2:=b3.size;have s3:=c3.size;refine⟨M.heap.size,u,H,gs,rfl,⟨I,by omega,by omega,lc⟩,am _ _,(J.block u (by omega)).trans ((c3.block u (by omega)).trans ((b3.block u la).trans F)),(J.block H (by omega)).trans ((c3.block H lb).trans b2),(J.block gs lc).trans c2,?_⟩;exact((G.trans (b3.mono s1)).trans (c3.mono (by omega))).trans (J.mono (by omega))
theorem Fz.kp {own own':Nat->Nat}{W w':World}{S:Nat->Prop}(h:Fz own own' W w') (F:∀k,k<W.heap.size->own k≠0->S k):Kp S W w':=
 ⟨h.os,h.tape,h.output,h.size,fun k u G=>(h.blk k u (Mq fun e=>G (F k u e))).1⟩
structure S0 (own:Nat->Nat) (W:World) (g N gs qh qw:Nat) (v:Value) (csh csw:List (Nat × List Nat)) (c:CS):Prop where
 nf:Nf own W
 z:own 5=0
 lab:own g=2
 blk:W.heap[g]?=some (.cells (Ay (kv qh qw c) N gs c.pr.bl v c.pr.en) 122 (0,0))
 ar:W.ownsRow 0 116 3 v c.pr.ar.length (au mw c.pr.ar.reverse)/\∀k,v.ownBlock=some k->own k=2
 sk:SK own 1 W gs c.pr.sk
 rh:fe own 0 W qh csh
 hl:fl csh=c.hl
 rw:fe own 1 W qw csw
 wl:fl csw=c.wl
 pm:∀b x,c.m b=some x->W.heap[b]?=some (.cells (yS x) 255 (0,0))/\own b=5
section
variable {own:Nat->Nat} {W:World} {g N gs qh qw:Nat} {v:Value} {csh csw:List (Nat × List Nat)} {c:CS}
theorem S0.st (h:S0 own W g N gs qh qw v csh csw c) (u:ib W):ST own W g N gs qh qw v csh csw c:=⟨⟨h.nf,u,h.z⟩,h.lab,h.blk,h.ar,h.sk,h.rh,h.hl,h.rw,h.wl,h.pm⟩
theorem ST.s0 (h:ST own W g N gs qh qw v csh csw c):S0 own W g N gs qh qw v csh csw c:=⟨h.en.nf,h.en.z,h.lab,h.blk,h.ar,h.sk,h.rh,h.hl,h.rw,h.wl,h.pm⟩
theorem S0.kept {w':World}(h:S0 own W g N gs qh qw v csh csw c) (u:bV (fun i=>i=0) own own W w'):S0 own w' g N gs qh qw v csh csw c:=by
 refine⟨h.nf.below u.size,h.z,h.lab,(u.block g (ai h.blk) (by rw[h.lab];omega)).trans h.blk,qn u (by omega) h.ar,h.sk.keptP u (by omega),h.rh.kept u (fun i F e=>by unfold Lr at F;omega),h.hl,h.rw.kept u (fun i F e=>by unfold Lr at F;omega),h.wl,fun b x I=>?_⟩;obtain⟨G,H⟩:=h.pm b x I;exact⟨(u.block b (ai G) (by rw[H];omega)).trans G,H⟩
end
def Rc (S:Nat->Prop) (W:World) (g N:Nat) (s:S9):Prop:=
 (s.cl=false/\∃own gs qh qw v csh csw c rl l,S0 own W g N gs qh qw v csh csw c/\(∀k,k<W.heap.size->own k≠0->S k)/\c.wl=rl.reverse/\WI c.m c.tot c.hl rl s.wt s.dp/\c.op=s.dp/\c.pr=dL s.pr/\sa N l s/\Fe s.pr s.wt)
 \/ (s.cl=true/\s.wt=[]/\W.heap[g]?=some (.cells JW 122 (0,0))/\S g)
theorem T9.rc {own:Nat->Nat}{W:World}{g N:Nat}{c':CS}{S:Nat->Prop}(h:T9 own W w' g N c') (hS:∀k,k<W.heap.size->own k≠0->S k) (hn:Nw S W.heap.size) {u:S9}(H:u.cl=false) (hw:∃F,c'.wl=F.reverse/\WI c'.m c'.tot c'.hl F u.wt u.dp) (M:c'.op=u.dp) (O:c'.pr=dL u.pr) {l:List Dc}(G:sa N l u) (I:Fe u.pr u.wt):Rc S w' g N u/\Kp S W w':=by
 obtain⟨o,gs,qh,qw,v,csh,csw,k1,k2⟩:=h;obtain⟨F,w1,w2⟩:=hw;refine⟨.inl ⟨H,o,gs,qh,qw,v,csh,csw,c',F,l,k1.s0,fun k hk J=>?_,w1,w2,M,O,G,I⟩,k2.kp hS⟩
 rcases LL k W.heap.size with hl|hl
 ·exact hS k hl (fun e=>J (k2.blk k hl e).2)
 ·exact hn k hl
theorem Ij :(⟨(s.told s).toArray⟩:ByteArray)=⟨#[]⟩:=by rw[wG]
theorem IN {S:Nat->Prop}{W:World}{g N:Nat}(h:Rc S W g N s) (J:Kc W w'):Rc S w' g N s:=by
 rcases h with⟨G,own,gs,qh,qw,v,csh,csw,c,rl,l,F,H,I⟩|⟨G,F,H,I⟩
 ·refine .inl ⟨G,own,gs,qh,qw,v,csh,csw,c,rl,l,F.kept (bV.of_below J),fun k M u=>?_,I⟩
  rcases LL k W.heap.size with hl|hl
  ·exact H k hl u
  ·exact absurd (F.nf k hl) u
 ·exact .inr ⟨G,F,af H J,I⟩
