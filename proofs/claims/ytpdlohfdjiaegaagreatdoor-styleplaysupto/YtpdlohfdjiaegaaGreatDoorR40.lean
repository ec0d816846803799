import Derived.Test.YtpdlohfdjiaegaaGreatDoorR39
set_option linter.unusedVariables false
set_option linter.unusedSimpArgs false
set_option maxHeartbeats 4000000
namespace Go.Proofs.YtpdlohfdjiaegaaGreatDoor
open Go.RowKit
open Lw (Dc bE rt frm dep rtT rtN dcs au aH)
variable {W w:World}{s:Sy}{n g cap:Nat}{v:Value}{r:Option Nat}{p:Option Addr}{l:List Dc}
def ug (W:World) (g:Nat) (ws:List Dc) (i:Nat) (d:Dc) (w':World):Prop:=∃w4 v4,w'=w4.setCell ⟨g,1,none⟩ v4/\Below W.heap.size W w4/\Rof w4 v4 (ws.take i++d :: ws.drop i)/\Own W.heap.size v4
theorem rP {ws:List Dc}{n0:Nat}(hro:Rof W (.slice p n0 cap) ws) (c1:W.cell? ⟨g,1,none⟩=some (.slice p n0 cap)) (hg:g<W.heap.size) (hfz:W.frozen? ⟨g,1,none⟩=false) (i:Nat) (hi:i<=ws.length) (d:Dc) (hl:ws.length<=1000000000) :
  Aa 40 #[spg g,.int .i64 i,.agg #[.int .u8 d.k,.string d.t,.int .i64 d.b,.int .i64 d.i,.bool d.e]] W fun r w'=>r=.returned (.tuple #[])/\∃w4 v4,w'=w4.setCell ⟨g,1,none⟩ v4/\Below W.heap.size W w4/\Rof w4 v4 (ws.take i++d :: ws.drop i)/\Own W.heap.size v4:=by
 obtain ⟨p',cap',e,hc1,hc2⟩:=hro.shape;cases e;have q1:(0:Int)<=i:=by omega
 have q2:(i:Int)<=cap:=by omega
 have q3:(i:Int)<=ws.length:=by omega
 have q4:(ws.length:Int)<=cap:=by omega
 have q5:(cap:Int)<=cap:=by omega
 have HF:Hid (∀w4 v4,Ab W w4->Rof w4 v4 (ws.take i++[d]++ws.drop i)->Own W.heap.size v4->(w4.cell? ⟨g,1,none⟩=some (.slice p ws.length cap)/\w4.frozen? ⟨g,1,none⟩=false)/\ug W g ws i d (w4.setCell ⟨g,1,none⟩ v4)):=fun w4 v4 hb hr ho=>by
  rw [zJ] at hr;exact ⟨⟨(hb.cell hg).trans c1,(World.frozen?_of_block (hb.block g hg)).trans hfz⟩,w4,v4,rfl,hb,hr,ho⟩
 have HA:Hid (∀w1,Ab W w1->Rof w1 (.slice p ws.length cap) ws/\w1.cell? ⟨g,1,none⟩=some (.slice p ws.length cap)/\g<w1.heap.size):=fun w1 hb=>⟨hro.below hb,(hb.cell hg).trans c1,zz hg hb.size⟩
 have HL1:Hid (i=(ws.take i).length/\([]:List Dc).length+(ws.take i).length<=2000000000/\(ws.take i).length+[d].length<=2000000000/\(ws.take i++[d]).length+(ws.drop i).length<=2000000000/\ws.length-i=(ws.drop i).length):=by
  refine ⟨by rw [zH];omega,?_,?_,?_,by rw [zN]⟩ <;> simp <;> omega
 have HP1:Hid (∀w1,Ab W w1->0<i->∃ad,p=some ad/\∀j u,(dcs (ws.take i))[j]?=some u->w1.cell? (ad.add j)=some u):=fun w1 hb h0=>by
  obtain ⟨b,o,e,h1⟩:=(hro.below hb).part (i:=0) (m:=i) (by omega) h0;refine ⟨_,e,fun j u hu=>?_⟩;have:=h1 j u (by rw [BI];exact hu);rw [DY,A3] at this;exact this
 have HP2:Hid (∀w1 b o,Ab W w1->p=some ⟨b,o,none⟩->0<ws.length-i->∀j u,(dcs (ws.drop i))[j]?=some u->w1.cell? ((⟨b,o+i*5,none⟩:Addr).add j)=some u):=fun w1 b o hb e h0 j u hu=>by
  obtain ⟨b',o',e',h1⟩:=(hro.below hb).part (i:=i) (m:=ws.length-i) (by omega) h0;rw [e] at e';cases e';exact h1 j u (by rw [Ak (by rw [zN];omega)];exact hu)
 have HCs:Hid ((p=none/\ws.length=0/\cap=0/\i=0)\/∃b o,p=some ⟨b,o,none⟩):=by
  rcases hro with ⟨h1,h2⟩|⟨b,o,cap',cur,h1,_⟩
  ·injection h1 with a1 a2 a3
   exact .inl ⟨a1,a2,a3,by omega⟩
  ·injection h1 with a1
   exact .inr ⟨b,o,a1⟩
 have HB1:Hid (∀o,Ab W (W.alloc o)):=fun o=>(gt _ _).alloc (eq _) _
 have HN1:Hid (∀w1,(W.alloc (.cells #[.int .u8 d.k,.string d.t,.int .i64 d.b,.int .i64 d.i,.bool d.e] 57)).heap.size<=w1.heap.size->Below (W.alloc (.cells #[.int .u8 d.k,.string d.t,.int .i64 d.b,.int .i64 d.i,.bool d.e] 57)).heap.size (W.alloc (.cells #[.int .u8 d.k,.string d.t,.int .i64 d.b,.int .i64 d.i,.bool d.e] 57)) w1->w1.heap[W.heap.size]?=some (.cells #[.int .u8 d.k,.string d.t,.int .i64 d.b,.int .i64 d.i,.bool d.e] 57 (0,0))):=fun w1 _ hb=>ab (ag _ _) hb
 have HK1:Hid (∀p1 cp1 w1,Rof w1 (.slice p1 i cp1) (ws.take i)->Kp (fun k=>(Value.slice none 0 0).ownBlock=some k) (W.alloc (.cells #[.int .u8 d.k,.string d.t,.int .i64 d.b,.int .i64 d.i,.bool d.e] 57)) w1->Nb (W.alloc (.cells #[.int .u8 d.k,.string d.t,.int .i64 d.b,.int .i64 d.i,.bool d.e] 57)) (.slice none 0 0) (.slice p1 i cp1)->Rof w1 (.slice p1 i cp1) (ws.take i)/\Ab W w1/\Own W.heap.size (.slice p1 i cp1)/\w1.heap[W.heap.size]?=some (.cells #[.int .u8 d.k,.string d.t,.int .i64 d.b,.int .i64 d.i,.bool d.e] 57 (0,0))):=fun p1 cp1 w1 x1 x2 x3=>by
  have hb:=HB1.out (.cells #[.int .u8 d.k,.string d.t,.int .i64 d.b,.int .i64 d.i,.bool d.e] 57);exact ⟨x1,(gV _).below hb x2 hb.size,(gV _).nb x3 hb.size,x2.blk (ag _ _) (fun e=>by cases e)⟩
 clear hro HN1 hfz
 go_enter Tryz.func40,Tryz.ntmps40
 go_upto_region 3 with (at_builtin;refine dC (by rfl) _ _ (by rfl) (.slice none 0 0) [] (ws.take i) (by rfl) (fj _) p i cap (by rfl) HL1.out.1 (HP1.out _ (HB1.out _)) HL1.out.2.1 ?_;intro p1 cp1 w1 x1 x2 x3;simp only [Ao,zC,Ay] at x1 x3 ⊢;have HX1:Hid (Rof w1 (.slice p1 i cp1) (ws.take i)/\Ab W w1/\Own W.heap.size (.slice p1 i cp1)/\w1.heap[W.heap.size]?=some (.cells #[.int .u8 d.k,.string d.t,.int .i64 d.b,.int .i64 d.i,.bool d.e] 57 (0,0))):=(HK1.out _ _ _ x1 x2 x3);clear x1 x2 x3)
 obtain ⟨y1,y2,y3,y4⟩:=HX1.out;have m0:=aa (k:=0) y4 rfl;have m1:=aa (k:=1) y4 rfl;have m2:=aa (k:=2) y4 rfl;have m3:=aa (k:=3) y4 rfl;have m4:=aa (k:=4) y4 rfl;have HB2:Hid (∀o,Rof (w1.alloc o) (.slice p1 i cp1) (ws.take i)/\Ab W (w1.alloc o)):=fun o=>⟨y1.below ((gt _ _).alloc (eq _) _),y2.alloc y2.size _⟩
 have HK2:Hid (∀o q o' c' w2,Rof w2 (.slice (some ⟨q,o',none⟩) ((ws.take i).length+1) c') (ws.take i++[d])->Kp (fun k=>(Value.slice p1 i cp1).ownBlock=some k) (w1.alloc o) w2->Nb (w1.alloc o) (.slice p1 i cp1) (.slice (some ⟨q,o',none⟩) ((ws.take i).length+1) c')->Rof w2 (.slice (some ⟨q,o',none⟩) (i+1) c') (ws.take i++[d])/\Ab W w2/\Own W.heap.size (.slice (some ⟨q,o',none⟩) (i+1) c')):=fun o q o' c' w2 x1 x2 x3=>by
  rw [<-HL1.out.1] at x1 x3;have hb:=y2.alloc y2.size o;exact ⟨x1,y3.below hb x2 hb.size,y3.nb x3 hb.size⟩
 clear HX1 y1 y2 y3 y4 HK1
 go_upto_region 4 with (at_builtin;refine cO (by rfl) _ _ (by rfl) (.slice p1 i cp1) (ws.take i) [d] (by rfl) (HB2.out _).1 ⟨w1.heap.size,0,none⟩ 1 1 (by rfl) (by rfl) (aT (ag w1 _)) (AB _) HL1.out.2.2.1 ?_;intro p2 o2 cp2 w2 x1 x2 x3;have HX2:=HK2.out _ _ _ _ _ x1 x2 x3;rw [<-HL1.out.1];clear x1 x2 x3)
 obtain ⟨x1,x2,x3⟩:=HX2;obtain ⟨y1,y2,y3⟩:=HA.out w2 x2;have HX:Hid (Rof w2 (.slice (some ⟨p2,o2,none⟩) (i+1) cp2) (ws.take i++[d])/\Ab W w2/\Own W.heap.size (.slice (some ⟨p2,o2,none⟩) (i+1) cp2)):=⟨x1,x2,x3⟩;have HEnd:Hid (∀p3 n3 c3 w3,Rof w3 (.slice p3 n3 c3) (ws.take i++[d]++ws.drop i)->Kp (fun k=>(Value.slice (some ⟨p2,o2,none⟩) (i+1) cp2).ownBlock=some k) w2 w3->Nb w2 (.slice (some ⟨p2,o2,none⟩) (i+1) cp2) (.slice p3 n3 c3)->(w3.cell? ⟨g,1,none⟩=some (.slice p ws.length cap)/\w3.frozen? ⟨g,1,none⟩=false)/\ug W g ws i d (w3.setCell ⟨g,1,none⟩ (.slice p3 n3 c3))):=fun p3 n3 c3 w3 z1 z2 z3=>HF.out w3 _ (x3.below x2 z2 x2.size) z1 (x3.nb z3 x2.size)
 have HLE:Hid (∀k,(ws.take i++[d]).length+k=i+1+k):=fun k=>by have:=HL1.out.1;rw [zq,<-this];rfl
 clear x1 x2 x3 HF HA HP1 HB1 HB2 HK2 m0 m1 m2 m3 m4
 rcases HCs.out with ⟨e1,e2,e3,e4⟩|⟨b,o,e1⟩
 ·subst e1 e3;have HE2:Hid (ws.length=0):=e2;have HE4:Hid (i=0):=e4;rw [e2] at y2;clear e2 e4
  go_wp2_with (at_builtin;refine dC (by rfl) _ _ (by rfl) (.slice (some ⟨p2,o2,none⟩) (i+1) cp2) (ws.take i++[d]) (ws.drop i) (by rfl) HX.out.1 _ _ _ (by rfl) (by have h1:=HL1.out.2.2.2.2;have h2:=HE2.out;have h3:=HE4.out;omega) (fun h0=>(by omega)) HL1.out.2.2.2.1 ?_;intro p3 c3 w3 z1 z2 z3;rw [HLE.out] at z1 z3 ⊢;obtain ⟨⟨z4,z5⟩,z6⟩:=HEnd.out _ _ _ _ z1 z2 z3;have HZ:Hid (ug W g ws i d (w3.setCell ⟨g,1,none⟩ (.slice p3 _ c3))):=z6;clear z1 z2 z3 z6)
  go_end0
  exact ⟨rfl,HZ.out⟩
 ·subst e1
  by_cases e5:i=cap
  ·subst e5;have HE2:Hid (ws.length-i=0):=by show _=_;omega
   go_wp2_with (at_builtin;refine dC (by rfl) _ _ (by rfl) (.slice (some ⟨p2,o2,none⟩) (i+1) cp2) (ws.take i++[d]) (ws.drop i) (by rfl) HX.out.1 _ _ _ (by rfl) (by have h1:=HL1.out.2.2.2.2;have h2:=HE2.out;omega) (fun h0=>(by omega)) HL1.out.2.2.2.1 ?_;intro p3 c3 w3 z1 z2 z3;rw [HLE.out] at z1 z3 ⊢;obtain ⟨⟨z4,z5⟩,z6⟩:=HEnd.out _ _ _ _ z1 z2 z3;have HZ:Hid (ug W g ws i d (w3.setCell ⟨g,1,none⟩ (.slice p3 _ c3))):=z6;clear z1 z2 z3 z6)
   go_end0
   exact ⟨rfl,HZ.out⟩
  ·have q7:¬cap=i:=fun e=>e5 e.symm
   go_wp2_with (at_builtin;refine dC (by rfl) _ _ (by rfl) (.slice (some ⟨p2,o2,none⟩) (i+1) cp2) (ws.take i++[d]) (ws.drop i) (by rfl) HX.out.1 _ _ _ (by rfl) HL1.out.2.2.2.2 (fun h0=>⟨_,rfl,HP2.out _ _ _ HX.out.2.1 rfl h0⟩) HL1.out.2.2.2.1 ?_;intro p3 c3 w3 z1 z2 z3;rw [HLE.out] at z1 z3 ⊢;obtain ⟨⟨z4,z5⟩,z6⟩:=HEnd.out _ _ _ _ z1 z2 z3;have HZ:Hid (ug W g ws i d (w3.setCell ⟨g,1,none⟩ (.slice p3 _ c3))):=z6;clear z1 z2 z3 z6)
   go_end0
   exact ⟨rfl,HZ.out⟩
theorem i8 {S:Nat->Prop}{w5:World}{vn vw:Value}{i:Int}{wr en pt:Bool}(hd:DB w5 g vn vw i wr en pt true) (hg:S g) (hk:Kp S W w5) (hr:Rof w5 v l) (hv:∀k,v.ownBlock=some k->S k\/W.heap.size<=k):DAq S g W (w5.setCell ⟨g,1,none⟩ (.slice none 0 0)) v l .done:=by
 have hkS:=Kp.set w5 g 1 (.slice none 0 0);have hne:∀k,v.ownBlock=some k->¬k=g:=fun k e e2=>hr.ne hd (by decide) (by rw [e,e2])
 refine ⟨⟨fun k=>k=g,⟨⟨vn,.slice none 0 0,i,wr,en,pt,af hd 1 _⟩,rfl,fun k e=>by rw [e];exact zz hd.lt hkS.size⟩,fun k e=>.inl (by rw [e];exact hg),fun k e=>⟨hv k e,hne k e⟩⟩,hr.kp hkS hne,hk.step hkS (fun k _ e=>by rw [e];exact hg)⟩
theorem mM {S:Nat->Prop}{st:Sst}(h:DQ S W g st) (hz:Sbe st) :
  Aa 22 #[spg g] W fun rr w'=>∃v,rr=.returned (.tuple #[v,.int .i64 (dP st).1])/\DAq S g W w' v (dP st).2.1 (dP st).2.2:=by
 cases st with
 |done=>
  have HX:Hid (DAq S g W W (.slice none 0 0) [] .done):=ib h (gt _ _);obtain ⟨⟨vn,vw,i,wr,en,pt,hd⟩,h2,h3⟩:=h;obtain ⟨c0,c1,c2,c3,c4,c5,c6⟩:=hd.cells;have hgl:=hd.lt;clear hd h2 h3 c0 c1 c2 c3 c4 c5
  go_enter DG,Dj
  go_wp2_with fail
  refine zE (v:=.tuple #[.slice none 0 0,.int .i64 4]) (by simp [results,Tryz.f22,go_sem]) rfl ?_;exact ⟨_,rfl,HX.out⟩
 |live s=>
  have HX0:Hid (DAq S g W W (.slice none 0 0) [] (.live s)):=ib h (gt _ _);obtain ⟨a,hsim,hds,hnk,hwk⟩:=h;obtain ⟨hz1,hz2⟩:=hz;have hbd:=hz1.sim hsim;obtain ⟨vn,vw,hv,s1,s2⟩:=hds.ex;have hsg:=hds.sg;obtain ⟨p,c,ev,_⟩:=av hv.rn;obtain ⟨p2,c2',ew,_⟩:=hv.ro.shape;subst ev ew;obtain ⟨c0,c1,c2,c3,c4,c5,c6⟩:=hv.sb.cells;have hgl:=hv.sb.lt;cases hn:s.ns with
  |cons n r=>
   obtain ⟨n',r',e1,_,_⟩:=hsim.head hn;have hpp:dP (.live s)=(130,[],.live s):=by show (match dL s with|none=>_|some l=>_)=_;unfold dL;rw [zu (by rw [hn];simp)]
   rw [hpp];rw [e1,List.length_cons] at c0;have q1:(0:Int)<(r'.length:Int)+1:=by omega
   clear hsim hds hnk hwk hz1 hz2 hbd hv s1 s2 hpp hn e1 c1 c2 c3 c4 c5
   go_enter DG,Dj
   go_wp2_with fail
   refine zE (v:=.tuple #[.slice none 0 0,.int .i64 130]) (by simp [results,Tryz.f22,go_sem]) rfl ?_;exact ⟨_,rfl,HX0.out⟩
  |nil=>
   have e1:=hsim.nil hn;have hpp:dP (.live s)=(0,a.endl.ws,.done):=by show (match dL s with|none=>_|some l=>_)=_;unfold dL;rw [zw hn,hsim.endl.ws]
   rw [hpp];rw [e1] at c0;simp only [Ao] at c0;have z6:=hv.sb.frozen 6;have hk1:=Kp.set W g 6 (.bool true);have hd1:DB (W.setCell ⟨g,6,none⟩ (.bool true)) g (.slice p a.ns.length c) (.slice p2 a.ws.length c2') (lw a.mr) a.wr a.en a.pt true:=af hv.sb 6 _;have hro1:Rof (W.setCell ⟨g,6,none⟩ (.bool true)) (.slice p2 a.ws.length c2') a.ws:=hv.ro.kp hk1 (fun k e1 e2=>hv.ro.ne hv.sb (by decide) (by rw [e1,e2]));have hs1:(W.setCell ⟨g,6,none⟩ (.bool true)).heap.size=W.heap.size:=by show (W.heap.modify g _).size=_;rw [AJ]
   obtain ⟨W1,hW1⟩:∃W1,W.setCell ⟨g,6,none⟩ (.bool true)=W1:=⟨_,rfl⟩;have HW1:Hid (W.setCell ⟨g,6,none⟩ (.bool true)=W1):=hW1;rw [hW1] at hk1 hd1 hro1 hs1;have HKs:Hid (Kp S W W1):=hk1.sub (fun k e=>by rw [e];exact hsg);have HL:Hid (a.ws.length<=300000000):=hbd.1
   have HEnd:Hid (∀X,Below W1.heap.size W1 X->(X.cell? ⟨g,1,none⟩=some (.slice p2 a.ws.length c2')/\X.frozen? ⟨g,1,none⟩=false/\g<X.heap.size)/\DAq S g W (X.setCell ⟨g,1,none⟩ (.slice none 0 0)) (.slice p2 a.ws.length c2') a.ws .done):=fun X hX=>by
    have hdX:=hd1.below hX;exact ⟨⟨hdX.cells.2.1,hdX.frozen 1,hdX.lt⟩,i8 hdX hsg (HKs.out.step (Kp.of_below (S:=fun _=>False) hX) (fun _ _ h=>h.elim)) (hro1.below hX) (fun k e=>.inl (s2 k e))⟩
   have HPu:Hid (∀X,Below W1.heap.size W1 X->Aa 40 #[spg g,.int .i64 0,.agg #[.int .u8 4,.string ⟨#[]⟩,.int .i64 0,.int .i64 0,.bool false]] X fun r w'=>r=.returned (.tuple #[])/\∃p4 n4 c4,(w'.cell? ⟨g,1,none⟩=some (.slice p4 n4 c4)/\w'.frozen? ⟨g,1,none⟩=false/\g<w'.heap.size)/\DAq S g W (w'.setCell ⟨g,1,none⟩ (.slice none 0 0)) (.slice p4 n4 c4) (dH :: a.ws) .done):=fun X hX=>by
    have hdX:=hd1.below hX;refine (rP (hro1.below hX) hdX.cells.2.1 hdX.lt (hdX.frozen 1) 0 (zx _) dH (by have:=HL.out;omega)).mono ?_;rintro r w' ⟨e,w4,v4,rfl,hb4,hr4,ho4⟩;have hr4':Rof w4 v4 (dH :: a.ws):=hr4;obtain ⟨p4,c4,e4,_⟩:=hr4'.shape;subst e4;have hd4:=hdX.below hb4;have hd5:DB (w4.setCell ⟨g,1,none⟩ (.slice p4 (dH :: a.ws).length c4)) g (.slice p a.ns.length c) (.slice p4 (dH :: a.ws).length c4) (lw a.mr) a.wr a.en a.pt true:=af hd4 1 _;have hkS4:=Kp.set w4 g 1 (.slice p4 (dH :: a.ws).length c4);refine ⟨e,p4,_,c4,⟨hd5.cells.2.1,hd5.frozen 1,hd5.lt⟩,i8 hd5 hsg (((HKs.out.step (Kp.of_below (S:=fun _=>False) hX) (fun _ _ h=>h.elim)).step (Kp.of_below (S:=fun _=>False) hb4) (fun _ _ h=>h.elim)).step hkS4 (fun k _ e=>by rw [e];exact hsg)) (hr4'.kp hkS4 (fun k e1 e2=>hr4'.ne hd4 (by decide) (by rw [e1,e2]))) (fun k e=>.inr ?_)⟩;have:=ho4 k e;have:=hX.size;omega
   have HSo:Hid (Aa 39 #[spg g,.int .u8 4,.int .i64 a.ws.length] W1 fun r w'=>r=.returned (.bool (a.ws.any cq))/\Below W1.heap.size W1 w'):=by
    refine (kM hro1 hd1.cells.2.1 4 a.ws.length (eq _) (by have:=HL.out;omega)).mono ?_;rintro r w' ⟨e,hb⟩;rw [Aw,sm4] at e;exact ⟨e,hb⟩
   have d1:=hd1.cells.2.1;have d4:=hd1.cells.2.2.2.2.1;have hg1:=hd1.lt;obtain ⟨sH,hsH⟩:∃x,a.ws.any cq=x:=⟨_,rfl⟩;rw [hsH] at HSo;have HEl:Hid (a.endl.ws=if a.en=true/\sH=false then dH :: a.ws else a.ws):=by show _=_;unfold Sy.endl;rw [hsH];split <;> rfl
   cases hen:a.en with
   |false=>
    have HE2:Hid (a.endl.ws=a.ws):=by show _=_;rw [HEl.out,hen];simp
    have HE3:=HEnd.out W1 (gt _ _);obtain ⟨⟨y1,y2,y3⟩,y4⟩:=HE3;have HY:Hid (DAq S g W (W1.setCell ⟨g,1,none⟩ (.slice none 0 0)) (.slice p2 a.ws.length c2') a.ws .done):=y4;rw [hen] at d4;clear hsim hds hnk hwk hz1 hz2 hbd hv s1 s2 hpp hn e1 c1 c2 c3 c4 c5 hk1 hd1 hro1 hs1 hW1 hen HEl HSo HPu HEnd y4 hsH
    go_enter DG,Dj
    go_upto_region 6 with fail
    rw [HW1.out]
    go_wp2_with fail
    refine zE (v:=.tuple #[.slice p2 a.ws.length c2',.int .i64 0]) (by simp [results,Tryz.f22,go_sem]) rfl ?_;rw [HE2.out];exact ⟨_,rfl,HY.out⟩
   |true=>
    rw [hen] at d4 HEl;cases sH
    ·have HE2:Hid (a.endl.ws=dH :: a.ws):=by show _=_;rw [HEl.out];simp
     clear hsim hds hnk hwk hz1 hz2 hbd hv s1 s2 hpp hn e1 c1 c2 c3 c4 c5 hk1 hd1 hro1 hs1 hW1 hen HEl hsH
     go_enter DG,Dj
     go_upto_region 6 with fail
     rw [HW1.out]
     go_wp2_with (first|(go_at_call 39;refine HSo.out.mono ?_;rintro r1 w2 ⟨rfl,hb2⟩;have HB2:=show Hid (Below W1.heap.size W1 w2) from hb2;clear hb2)|(go_at_call 40;refine (HPu.out _ HB2.out).mono ?_;rintro r1 w3 ⟨rfl,p4,n4,c4,⟨y1,y2,y3⟩,y4⟩;have HY:=show Hid (DAq S g W (w3.setCell ⟨g,1,none⟩ (.slice none 0 0)) (.slice p4 n4 c4) (dH :: a.ws) .done) from y4;clear y4))
     refine zE (v:=.tuple #[.slice p4 n4 c4,.int .i64 0]) (by simp [results,Tryz.f22,go_sem]) rfl ?_;rw [HE2.out];exact ⟨_,rfl,HY.out⟩
    ·have HE2:Hid (a.endl.ws=a.ws):=by show _=_;rw [HEl.out];simp
     clear hsim hds hnk hwk hz1 hz2 hbd hv s1 s2 hpp hn e1 c1 c2 c3 c4 c5 hk1 hd1 hro1 hs1 hW1 hen HEl HPu hsH
     go_enter DG,Dj
     go_upto_region 6 with fail
     rw [HW1.out]
     go_wp2_with (go_at_call 39;refine HSo.out.mono ?_;rintro r1 w2 ⟨rfl,hb2⟩;obtain ⟨⟨y1,y2,y3⟩,y4⟩:=HEnd.out _ hb2;have HY:=show Hid (DAq S g W (w2.setCell ⟨g,1,none⟩ (.slice none 0 0)) (.slice p2 a.ws.length c2') a.ws .done) from y4;clear y4 hb2)
     refine zE (v:=.tuple #[.slice p2 a.ws.length c2',.int .i64 0]) (by simp [results,Tryz.f22,go_sem]) rfl ?_;rw [HE2.out];exact ⟨_,rfl,HY.out⟩
def OrD (W:World) (v:Value) (n:Nat):Prop:=∃xs,W.ownsRow 0 57 5 v n xs
theorem OrD.below {w':World}(h:OrD w v n) (hb:Below w.heap.size w w'):OrD w' v n:=by
 obtain ⟨xs,h⟩:=h;exact ⟨xs,aE h hb⟩
theorem OrD.shape (h:OrD w v n):∃p cap,v=.slice p n cap/\n<=cap/\cap<=maxLen:=by
 obtain ⟨xs,h⟩:=h;exact av h
theorem OrD.set (h:OrD W (.slice (some ⟨g,0,none⟩) n cap) n) (k:Nat) (u:Value):OrD (W.setCell ⟨g,k,none⟩ u) (.slice (some ⟨g,0,none⟩) n cap) n:=by
 obtain ⟨xs,hx1,hx2⟩:=h
 rcases hx2 with ⟨hv,_⟩|⟨g',cap',cur,hv,h1,h2,h3,h4,h5,h6⟩
 ·cases hv
 ·cases hv;refine ⟨(cur.setIfInBounds k u).toList.take (n*5),?_,.inr ⟨g,cap,_,rfl,h1,af h2 k u,h3,h4,by simpa using h5,rfl⟩⟩;rw [zH];simp;have:=CS 5 h3;omega
structure SpD (w W:World) (v:Value) (n:Nat) (r:Option Nat):Prop where
 row:OrD W v n
 kp:Kp (fun k=>some k=r) w W
theorem SpD.set (h:SpD w W (.slice (some ⟨g,0,none⟩) n cap) n r) (hr:w.heap.size<=g\/r=some g) (k:Nat) (u:Value):SpD w (W.setCell ⟨g,k,none⟩ u) (.slice (some ⟨g,0,none⟩) n cap) n r:=by
 refine ⟨h.row.set k u,h.kp.step (Kp.set W g k u) ?_⟩;rintro j hj rfl
 rcases hr with hr|hr
 ·omega
 ·exact hr.symm
theorem SpD.cells {w W:World}{g n cap k:Nat}{r:Option Nat}(h:SpD w W (.slice (some ⟨g,0,none⟩) n cap) n r) (hk:k<n):(∃u0 u1 u2 u3 u4,W.cell? ⟨g,k*5,none⟩=some u0/\W.cell? ⟨g,k*5+1,none⟩=some u1/\W.cell? ⟨g,k*5+2,none⟩=some u2/\W.cell? ⟨g,k*5+3,none⟩=some u3/\W.cell? ⟨g,k*5+4,none⟩=some u4)/\∀j,W.frozen? ⟨g,j,none⟩=false:=by
 obtain ⟨xs,hx1,hx2⟩:=h.row
 rcases hx2 with ⟨hv,_⟩|⟨g',cap',cur,hv,h1,h2,h3,h4,h5,h6⟩
 ·cases hv
 ·cases hv;have hin:∀j,j<5->∃u,cur[k*5+j]?=some u:=fun j hj=>⟨_,zY (by have:=CS 5 (zr hk h3);omega)⟩
  obtain ⟨u0,e0⟩:=hin 0 (by omega);obtain ⟨u1,e1⟩:=hin 1 (by omega);obtain ⟨u2,e2⟩:=hin 2 (by omega);obtain ⟨u3,e3⟩:=hin 3 (by omega);obtain ⟨u4,e4⟩:=hin 4 (by omega);exact ⟨⟨u0,u1,u2,u3,u4,aa h2 e0,aa h2 e1,aa h2 e2,aa h2 e3,aa h2 e4⟩,fun j=>aj h2⟩
theorem SpD.has {k:Nat}(h:SpD w W v n r) (hk:k<n):∃g cap,v=.slice (some ⟨g,0,none⟩) n cap/\g<W.heap.size/\n<=cap/\cap<=maxLen:=by
 obtain ⟨xs,hx1,hx2⟩:=h.row
 rcases hx2 with ⟨hv,h0⟩|⟨g',cap',cur,hv,h1,h2,h3,h4,h5,h6⟩
 ·omega
 ·exact ⟨g',cap',hv,ah h2,h3,h4⟩
theorem wC {c:Nat}(H:SpD w W (.slice p n c) n r) (hr:∀k,(Value.slice p n c).ownBlock=some k->w.heap.size<=k\/r=some k) (hl:n<=1000000000) {ops:Array Oper}{rest:List Oper}{o:Oper}{a:Act}{Q:Exit->Act->World->Prop}(hgd:o.guard=none) (sO xO:Operand) (ho:o.op=.call { callee:=.builtin .append,args:=#[sO,xO],argTypes:=#[46,46] }) (hs:a.eval sO=.slice p n c) (hx:a.eval xO=.slice (some ⟨W.heap.size,0,none⟩) 1 1)
  (h:∀g cap w',SpD w w' (.slice (some ⟨g,0,none⟩) (n+1) cap) (n+1) r->(w.heap.size<=g\/r=some g)->wpList Tryz.prog ops Q rest (a.put o.dst (.slice (some ⟨g,0,none⟩) (n+1) cap)) w') :
  wpList Tryz.prog ops Q (o :: rest) a (W.alloc (.cells #[.int .u8 78,.string ⟨#[]⟩,.int .i64 0,.int .i64 0,.bool false] 57)):=by
 obtain ⟨i0,hi,hz0,hz1,hz2⟩:=Az Tryz.info57;have hb:Below W.heap.size W (W.alloc (.cells #[.int .u8 78,.string ⟨#[]⟩,.int .i64 0,.int .i64 0,.bool false] 57)):=(gt _ _).alloc (eq _) _;obtain ⟨xs,hrow⟩:=H.row.below hb;refine Cq (P:=Tryz.prog) (W.alloc (.cells #[.int .u8 78,.string ⟨#[]⟩,.int .i64 0,.int .i64 0,.bool false] 57)) hgd sO xO 46 ho 0 57 i0 _ 5 48 zU hi hz0 hz1 hz2 rfl (by decide) (.slice p n c) _ _ hs hrow ⟨W.heap.size,0,none⟩ 1 1 (dcs [⟨78,bE,0,0,false⟩]) hx (by rw [au];rfl) ?_ (aH _) (by omega) (by unfold maxLen;omega) (by omega) (zx _) _ rfl ?_
 ·intro j u hu;refine As (ag W _) j u ?_;have e:dcs [⟨78,bE,0,0,false⟩]=[.int .u8 78,.string ⟨#[]⟩,.int .i64 0,.int .i64 0,.bool false]:=by simp [dcs,aN,Dc.cs,bE]
  rw [e] at hu
  simpa using hu
 ·intro g cap w' h1 h2 h4 _
  have hk:Kp (fun k=>some k=r) w w':=(H.kp.step (Kp.of_below (S:=fun _=>False) hb) (fun _ _ h=>h.elim)).step (Kp.of_grown h2) (fun k hlt e=>by
   rcases hr k e.symm with h|h
   ·omega
   ·exact h.symm)
  refine h g cap w' ⟨⟨_,h1⟩,hk⟩ ?_
  rcases h4 with h4|h4
  ·exact hr g h4
  ·left
   have:=H.kp.size;rw [ge] at h4;omega
theorem gA (h:OrD W v n) (hl:n<=900000000) :
  Aa 23 #[v] W fun r w'=>r=.returned (.tuple #[])/\Kp (fun k=>some k=v.ownBlock) W w':=by
 obtain ⟨r,hr⟩:∃r,v.ownBlock=r:=⟨_,rfl⟩;have H0:Hid (SpD W W v n r):=⟨h,Kp.refl _ _⟩;obtain ⟨p,c,rfl,hc1,hc2⟩:=h.shape;have HR:Hid ((Value.slice p n c).ownBlock=r):=hr;rw [hr];clear h hr
 go_enter Tryz.func23,Tryz.ntmps23
 go_wp2_with fail
 go_loopw [2] (fun i wr=>∃k:Nat,k<=n/\i=.int .i64 k/\Hid (SpD W wr (.slice p n c) n r)) (fun i _=>n-(intOf i).toNat)
 case atStart=>exact ⟨0,by omega,rfl,H0⟩
 case round=>
  obtain ⟨k,hk,rfl,HI⟩:=hrel
  by_cases hlt:k<n
  ·have q1:(k:Int)<n:=by omega
   have q0:(0:Int)<=k:=by omega
   obtain ⟨g,cap,hv,g1,g2,g3⟩:=HI.out.has hlt;cases hv;obtain ⟨⟨u0,u1,u2,u3,u4,c0,c1,c2,c3,c4⟩,hf⟩:=HI.out.cells hlt;have f0:=hf (k*5);have f1:=hf (k*5+1);have f2:=hf (k*5+2);have f3:=hf (k*5+3);have f4:=hf (k*5+4);have hrg:r=some g:=HR.out.symm;have HS:Hid (SpD W (((((wr.setCell ⟨g,k*5,none⟩ (.int .u8 77)).setCell ⟨g,k*5+1,none⟩ (.string ⟨#[]⟩)).setCell ⟨g,k*5+2,none⟩ (.int .i64 0)).setCell ⟨g,k*5+3,none⟩ (.int .i64 0)).setCell ⟨g,k*5+4,none⟩ (.bool false)) (.slice (some ⟨g,0,none⟩) n c) n r):=((((HI.out.set (.inr hrg) _ _).set (.inr hrg) _ _).set (.inr hrg) _ _).set (.inr hrg) _ _).set (.inr hrg) _ _;clear hf HI hrg
   go_wp2_with fail
   exact ⟨⟨k+1,hlt,by go_num,HS.out⟩,by simp [intOf];omega⟩
  ·obtain rfl:k=n:=by omega
   have q1:¬((k:Int)<k):=by omega
   have HB:Hid (SpD W wr (.slice p k c) k r):=HI.out;clear HI
   go_wp2_with fail
   go_loopw [0,3] (fun v i wr2=>∃(j:Nat) (p2:Option Addr) (c2:Nat),j<=20/\i=.int .i64 j/\v=.slice p2 (k+j) c2/\Hid (SpD W wr2 (.slice p2 (k+j) c2) (k+j) r/\∀q,(Value.slice p2 (k+j) c2).ownBlock=some q->W.heap.size<=q\/r=some q)) (fun _ i _=>20-(intOf i).toNat)
   case atStart=>exact ⟨0,p,c,by omega,rfl,rfl,HB.out,fun q e=>.inr (by rw [<-HR.out];exact e)⟩
   case round=>
    obtain ⟨j,p2,c2,hj,rfl,rfl,HJ⟩:=hrel
    by_cases hlt2:j<20
    ·have q2:(j:Int)<20:=by omega
     have HL:Hid (k+j<=1000000000):=by show _<=_;omega
     have HG:Hid (j+1<=20):=hlt2;clear hlt hlt2
     go_wp2_with (at_builtin;refine wC HJ.out.1 HJ.out.2 HL.out (by rfl) _ _ (by rfl) (by rfl) (by rfl) ?_;intro g9 cap9 w9 y1 y2;have HY:Hid (SpD W w9 (.slice (some ⟨g9,0,none⟩) (k+j+1) cap9) (k+j+1) r/\(W.heap.size<=g9\/r=some g9)):=⟨y1,y2⟩;clear y1 y2)
     exact ⟨⟨j+1,_,_,HG.out,by go_num,rfl,HY.out.1,fun q e=>by simp only [Value.ownBlock,zL] at e;rw [<-e];exact HY.out.2⟩,by simp [intOf];have:=HG.out;omega⟩
    ·obtain rfl:j=20:=by omega
     have HE:Hid (Kp (fun k=>some k=r) W wr):=HJ.out.1.kp;clear HJ hlt2
     go_wp2_with fail
     go_end0
     exact ⟨rfl,HE.out⟩
def cB (l:List Nd):Nat:=(l.map (·.b)).sum
theorem bL (n:Nd) (l:List Nd):cB (n :: l)=n.b+cB l:=by simp [cB]
def phi (s:Sy):Nat:=s.ws.length+cB s.ns
theorem xx (s:Sy) (p:Pz):phi (s.aw p)<=phi s+2/\(s.aw p).ns.length=s.ns.length/\(s.aw p).mr=s.mr/\s.ws.length<=(s.aw p).ws.length:=by
 refine ⟨?_,ie p s.ns,rfl,by rw [jF,zq];omega⟩;have h1:=dA p s.ns
 have hn:cB (awN p s.ns)<=cB s.ns+1:=by
  cases hc:s.ns with
  |nil=>simp [awN,cB]
  |cons n r=>
   have hp:p.n<=1:=by cases p <;> simp [Pz.n]
   simp only [awN];rw [bL]
   split
   ·rw [bL];show n.b-1+cB r<=_;omega
   ·rw [bL];show n.b+p.n+cB r<=_;omega
 show (s.ws++awW p s.ns).length+cB (awN p s.ns)<=_
 rw [zq];unfold phi;omega
theorem eL (s:Sy) (l:List Pz):phi (s.aws l)<=phi s+2*l.length/\(s.aws l).ns.length=s.ns.length/\(s.aws l).mr=s.mr/\s.ws.length<=(s.aws l).ws.length:=by
 induction l generalizing s with
 |nil=>exact ⟨by simp [Sy.aws],rfl,rfl,eq _⟩
 |cons p l ih=>
  obtain ⟨a1,a2,a3,a4⟩:=ih (s.aw p);obtain ⟨b1,b2,b3,b4⟩:=xx s p;rw [bJ];exact ⟨by simp only [List.length_cons];omega,a2.trans b2,a3.trans b3,by omega⟩
def Mo (s:Sy):Prop:=∀m,s.mr=some m->m<=s.ws.length
theorem Mo.aws (h:Mo s) (l:List Pz):Mo (s.aws l):=fun m hm=>by
 obtain ⟨_,_,a3,a4⟩:=eL s l;have:=h m (by rw [<-a3];exact hm);omega
theorem fo (s:Sy):phi s.exprIn<=phi s+4/\s.exprIn.ns.length=s.ns.length/\s.exprIn.mr=s.mr/\s.ws.length<=s.exprIn.ws.length:=by
 unfold Sy.exprIn
 split
 ·exact ⟨by omega,rfl,rfl,eq _⟩
 ·rename_i n r e
  have hb:cB s.ns=n.b+cB r:=by rw [e,bL]
  have key:∀l:List Pz,(∀p∈l,awW p s.ns=[p.d])->True:=fun _ _=>trivial
  by_cases h19:n.k=19
  ·obtain ⟨a1,a2,a3,a4⟩:=eL s [.S,.I 3];simp only [zw h19];refine ⟨?_,by show ((_:Nd) :: r).length=_;rw [e];rfl,a3,a4⟩
   have hw:(s.aws [.S,.I 3]).ws.length<=s.ws.length+2:=by
    show ((s.ws++awW .S s.ns)++awW (.I 3) (awN .S s.ns)).length<=_
    have:=dA .S s.ns;have:=dA (.I 3) (awN .S s.ns);rw [zq,zq];omega
   show (s.aws [.S,.I 3]).ws.length+cB (⟨n.k,n.b+1,true⟩ :: r)<=_
   rw [bL];unfold phi;rw [hb];show _+(n.b+1+cB r)<=_;omega
  ·by_cases h31:n.k=31/\n.s=false
   ·obtain ⟨a1,a2,a3,a4⟩:=eL s [.B0];simp only [zu h19,zw h31];refine ⟨?_,by show ((_:Nd) :: r).length=_;rw [e];rfl,a3,a4⟩
    have hw:(s.aws [.B0]).ws.length<=s.ws.length+1:=by
     show (s.ws++awW .B0 s.ns).length<=_
     have:=dA .B0 s.ns;rw [zq];omega
    show (s.aws [.B0]).ws.length+cB (⟨n.k,n.b,true⟩ :: r)<=_
    rw [bL];unfold phi;rw [hb];show _+(n.b+cB r)<=_;omega
   ·simp only [zu h19,zu h31];refine ⟨?_,by show ((_:Nd) :: r).length=_;rw [e];rfl,by first|rfl|trivial,by first|exact eq _|trivial⟩;show s.ws.length+cB (⟨n.k,n.b,true⟩ :: r)<=_;rw [bL];unfold phi;rw [hb];show _+(n.b+cB r)<=_;omega
theorem Mo.exprIn (h:Mo s):Mo s.exprIn:=fun m hm=>by
 obtain ⟨_,_,a3,a4⟩:=fo s;have:=h m (by rw [<-a3];exact hm);omega
theorem Mo.mark (h:Mo s) (k:Int):Mo (s.mark k):=by
 unfold Sy.mark
 split
 ·intro m hm;cases hm;exact eq _
 ·exact h
theorem jw (s:Sy) (k:Int):phi (s.opens k)<=phi s+12/\(s.opens k).ns.length<=s.ns.length+1:=by
 obtain ⟨s1,hs1⟩:∃s1,(if k=21 then s.exprIn else s)=s1:=⟨_,rfl⟩
 have h1:phi s1<=phi s+4/\s1.ns.length=s.ns.length:=by
  rw [<-hs1];split
  ·exact ⟨(fo s).1,(fo s).2.1⟩
  ·exact ⟨by omega,rfl⟩
 have h2:phi (s1.mark k)=phi s1/\(s1.mark k).ns=s1.ns:=by unfold Sy.mark;split <;> exact ⟨rfl,rfl⟩
 have hl:(opP k).length<=1:=by unfold opP;split;simp;split <;> simp
 obtain ⟨a1,a2,_,_⟩:=eL { (s1.mark k) with ns:=⟨k,0,false⟩ :: (s1.mark k).ns } (opP k)
 have h3:phi ({ (s1.mark k) with ns:=⟨k,0,false⟩ :: (s1.mark k).ns }:Sy)=phi (s1.mark k):=by
  show (s1.mark k).ws.length+cB (⟨k,0,false⟩ :: (s1.mark k).ns)=_
  rw [bL];show _+(0+_)=_;unfold phi;omega
 have e:s.opens k=Sy.aws { (s1.mark k) with ns:=⟨k,0,false⟩ :: (s1.mark k).ns } (opP k):=by unfold Sy.opens;simp only;rw [hs1]
 rw [e];refine ⟨by rw [h3] at a1;omega,?_⟩;rw [a2];show ((⟨k,0,false⟩:Nd) :: (s1.mark k).ns).length<=_;rw [List.length_cons,h2.2,h1.2];omega
theorem Mo.opens (h:Mo s) (k:Int):Mo (s.opens k):=by
 unfold Sy.opens;simp only;refine Mo.aws ?_ _;have:Mo ((if k=21 then s.exprIn else s).mark k):=Mo.mark (by split;exact h.exprIn;exact h) k;exact this
theorem iI (s:Sy):phi s.leaves<=phi s+12/\s.leaves.ns.length<=s.ns.length:=by
 unfold Sy.leaves
 split
 ·exact ⟨by omega,eq _⟩
 ·rename_i n r e
  refine ⟨?_,by rw [e];simp⟩;show (s.ws++List.replicate n.b dX++(if n.k=1 then [dH] else [])).length+cB r<=_;unfold phi;rw [e,bL,zq,zq,Bl]
  split <;> simp <;> omega
theorem Mo.leaves (h:Mo s):Mo s.leaves:=by
 unfold Sy.leaves
 split
 ·exact h
 ·intro m hm;have:=h m hm;show m<=(s.ws++List.replicate _ dX++_).length;rw [zq,zq];omega
theorem pJ (s:Sy) (a:Fx) (f:Int):phi (s.ready a f)<=phi s+7/\(s.ready a f).ns.length=s.ns.length:=by
 obtain ⟨a1,a2,_,_⟩:=eL s a.pz;have hl:=mY a
 have e1:phi ((s.aws a.pz).emp f)<=phi (s.aws a.pz)+1:=by
  unfold Sy.emp
  split
  ·omega
  ·split
   ·omega
   ·rename_i m _ _
    show ((s.aws a.pz).ws.take m++dE :: (s.aws a.pz).ws.drop m).length+cB (s.aws a.pz).ns<=_
    unfold phi;simp only [zq,zH,List.length_cons,zN];omega
 have e2:∀u:Sy,phi u.endl<=phi u+1:=fun u=>by
  unfold Sy.endl
  split
  ·show (dH :: u.ws).length+cB u.ns<=_;unfold phi;simp;omega
  ·omega
 have e3:∀u:Sy,phi u.part<=phi u+1:=fun u=>by
  unfold Sy.part
  split
  ·show (u.ws++[dS]).length+cB u.ns<=_;unfold phi;simp;omega
  ·omega
 unfold Sy.ready;refine ⟨?_,by rw [oh,oD,ti,a2]⟩;have:=e3 ((s.aws a.pz).emp f).endl;have:=e2 ((s.aws a.pz).emp f);omega
theorem li (s:Sy) (t:Tv):(s.leaf t).2.length+phi (s.leaf t).1<=phi s+12/\(s.leaf t).1.ns.length=s.ns.length:=by
 unfold Sy.leaf
 split
 ·exact ⟨by simp,rfl⟩
 ·rename_i n r e
  obtain ⟨a1,a2⟩:=pJ s (aQ n t).a t.f;obtain ⟨b1,b2,_,_⟩:=eL ⟨(s.ready (aQ n t).a t.f).ns,[],none,true,false,false⟩ (aQ n t).b.pz;have hl:=mY (aQ n t).b;refine ⟨?_,?_⟩
  ·show ((s.ready (aQ n t).a t.f).ws++[dT t.t]).length+phi (Sy.aws ⟨(s.ready (aQ n t).a t.f).ns,[],none,true,false,false⟩ (aQ n t).b.pz)<=_
   have:phi ⟨(s.ready (aQ n t).a t.f).ns,[],none,true,false,false⟩=cB (s.ready (aQ n t).a t.f).ns:=by unfold phi;simp
   rw [this] at b1;unfold phi at a1;rw [zq];simp only [List.length_cons,Ao];unfold phi at b1 ⊢;omega
  ·show (Sy.aws ⟨(s.ready (aQ n t).a t.f).ns,[],none,true,false,false⟩ (aQ n t).b.pz).ns.length=_
   rw [b2];exact a2
theorem Mo.leaf (h:Mo s) (t:Tv):Mo (s.leaf t).1:=by
 unfold Sy.leaf
 split
 ·exact h
 ·show Mo (Sy.aws ⟨_,[],none,true,false,false⟩ _)
  exact Mo.aws (fun m hm=>by cases hm) _
theorem lh (s:Sy) (t:Tv):(s.note t).2.length+phi (s.note t).1<=phi s+12/\(s.note t).1.ns.length=s.ns.length:=by
 have hsp:(s.ws.takeWhile aK).length+(s.ws.dropWhile aK).length=s.ws.length:=by
  rw [<-zq,List.takeWhile_append_dropWhile]
 unfold Sy.note;simp only
 split
 ·refine ⟨?_,rfl⟩;show (s.ws.takeWhile aK++[dS,dT t.t]).length+((s.ws.dropWhile aK).length+cB s.ns)<=_;unfold phi;simp;omega
 ·refine ⟨?_,rfl⟩;show (s.ws.takeWhile aK++dH :: ((if _ then [dE] else [])++[dT t.t])).length+((s.ws.dropWhile aK).length+cB s.ns)<=_;unfold phi
  split <;> simp <;> omega
theorem Mo.note (t:Tv):Mo (s.note t).1:=by
 unfold Sy.note;simp only
 split <;> (intro m hm;cases hm)
theorem od {s':Sy}{e:Ev}(h:dK s e=some (s',l)):l.length+phi s'<=phi s+12/\s'.ns.length<=s.ns.length+1/\(Mo s->Mo s'):=by
 unfold dK at h
 split at h
 ·have h':=zT h;obtain ⟨e1,e2⟩:(s.step e).1=s'/\(s.step e).2=l:=⟨by rw [h'],by rw [h']⟩;rw [<-e1,<-e2];unfold Sy.step
  split
  ·exact ⟨by have:=(jw s e.n).1;simpa using this,(jw s e.n).2,fun h=>h.opens _⟩
  ·split
   ·exact ⟨by have:=(iI s).1;simpa using this,by have:=(iI s).2;show s.leaves.ns.length<=_;omega,fun h=>h.leaves⟩
   ·split
    ·exact ⟨(li s e.d).1,by rw [(li s e.d).2];omega,fun h=>h.leaf _⟩
    ·exact ⟨(lh s e.d).1,by rw [(lh s e.d).2];omega,fun _=>Mo.note _⟩
 ·cases h
theorem mc {l:List Nd}{x:Nd}(h:x∈l):x.b<=cB l:=by
 induction l with
 |nil=>cases h
 |cons n r ih=>
  rw [bL]
  rcases zK.1 h with rfl|h
  ·omega
  ·have:=ih h;omega
theorem ry {s:Sy}{j:Nat}(h1:phi s<=12*j) (h2:s.ns.length<=j) (h3:Mo s) (hj:j<=30000000):Sbd (.live s):=by
 unfold phi at h1;exact ⟨⟨by omega,by omega,fun x hx=>by have:=mc hx;omega⟩,h3⟩
end Go.Proofs.YtpdlohfdjiaegaaGreatDoor
