import Derived.Test.YtcmbkeghnmgbfaaGreatDoorM30
set_option linter.all false
set_option maxHeartbeats 4000000
namespace Go.Proofs.YtcmbkeghnmgbfaaGreatDoor
open Go.Proofs.Tryz
open Go.RowKit
open Lw (Dc bE rt cH cY iA me bD aQ bO)
variable {W W':World}{g:Nat}
set_option maxRecDepth 100000 in
theorem AX {S:Nat->Prop}{st:Sy}(h:SS S W g st) (hz:Bz 900000000 st) (hm:∀m,st.mr=some m->m<=st.ws.length) {n:Nd}{r:List Nd}(e:st.ns=n :: r) (t:Tv) :
  Kb 90 #[bv g,.agg #[.int .u8 t.k,.string t.t,.int .i64 t.a,.int .i64 t.l,.int .i64 t.c,.int .i64 t.f]] W fun J w'=>∃v,J=.returned v/\An S g W w' v (st.leaf t).2 (st.leaf t).1:=by
 obtain⟨V,hV⟩:∃V,W.alloc (.cells #[.int .u8 t.k,.string t.t,.int .i64 t.a,.int .i64 t.l,.int .i64 t.c,.int .i64 t.f] 76)=V:=⟨_,rfl⟩;have hB:Below W.heap.size W V:=by rw[<-hV];exact(gt _ _).alloc (ge _) _
 have hT:F6 V W.heap.size t:=by rw[<-hV];exact am _ _
 have cc:V.heap.size=W.heap.size+1:=by rw[<-hV];show(W.heap.push _).size=_;simp
 have HV:=ku hV;obtain⟨b,cap,hc,y0,y1,y2,y3⟩:=(h.below hB).nodes e;obtain⟨R,hR⟩:∃R,dU n t=R:=⟨_,rfl⟩
 obtain⟨a,b',c,d,e',f',ax⟩:∃a b c d e f,R.ns=[a,b,c,d,e,f]:=by
  rw[<-hR];unfold dU
  split
  ·cases hq:tab.find? (fun r=>r.fits n t.t)with
   |none=>exact⟨0,0,0,0,0,0,rfl⟩
   |some x=>exact J6 (uE x (Li hq))
  ·exact⟨0,0,0,0,0,0,rfl⟩
 have bh:R.v=.agg #[.int .u8 a,.int .u8 b',.int .u8 c,.int .u8 d,.int .u8 e',.int .u8 f',.string ⟨R.t.toArray⟩,.func (.func R.a.id) #[] #[],.func (.func R.b.id) #[] #[]]:=by
  have:R=⟨[a,b',c,d,e',f'],R.t,R.a,R.b⟩:=by rw[<-ax]
  rw[this];exact FF _ _ _ _ _ _ _ _ _
 have bb:Hid (∀X,Kb 129 #[.agg #[.int .u8 n.k,.int .i64 n.b,.bool n.s],.agg #[.int .u8 t.k,.string t.t,.int .i64 t.a,.int .i64 t.l,.int .i64 t.c,.int .i64 t.f]] X fun e w'=>e=.returned (.agg #[.int .u8 a,.int .u8 b',.int .u8 c,.int .u8 d,.int .u8 e',.int .u8 f',.string ⟨R.t.toArray⟩,.func (.func R.a.id) #[] #[],.func (.func R.b.id) #[] #[]])/\Below X.heap.size X w'):=fun X=>by rw[<-bh,<-hR];exact xc n t X
 have HI:=ku fun X (M:Below V.heap.size V X)=>er (bP hc M) (by have:=hz.2.1;rw[e]at this;simp at this;omega)
 have HK:Hid (∀X,Below V.heap.size V X->(X.cell? ⟨b,r.length*3,none⟩=some (.int .u8 n.k)/\X.cell? ⟨b,r.length*3+1,none⟩=some (.int .i64 n.b)/\X.cell? ⟨b,r.length*3+2,none⟩=some (.bool n.s))/\F6 X W.heap.size t):=fun X M=>⟨⟨bP y0 M,bP y1 M,bP y2 M⟩,af hT M⟩
 obtain⟨t0,t1,t2,t3,t4,t5⟩:=hT.cells;have cx:=Kg _ _ y0;have cr:=show Hid (V.heap.size=W.heap.size+1)from cc
 have cq:W.heap.size<V.heap.size:=by omega
 clear y3 hV cc
 go_enter func90,ntmps90
 go_upto_region 1 with fail
 rw[HV.out];have az:Hid (Below V.heap.size V (V.alloc (.cells #[.int .u8 0,.int .u8 0,.int .u8 0,.int .u8 0,.int .u8 0,.int .u8 0,.string ⟨#[]⟩,.nilFunc,.nilFunc] 224)).drew):=((gt _ V).alloc (ge _) _).drew;have bu:=ku fun w' (hw:Below (V.alloc (.cells #[.int .u8 0,.int .u8 0,.int .u8 0,.int .u8 0,.int .u8 0,.int .u8 0,.string ⟨#[]⟩,.nilFunc,.nilFunc] 224)).drew.heap.size (V.alloc (.cells #[.int .u8 0,.int .u8 0,.int .u8 0,.int .u8 0,.int .u8 0,.int .u8 0,.string ⟨#[]⟩,.nilFunc,.nilFunc] 224)).drew w')=>af (W:=(V.alloc (.cells #[.int .u8 0,.int .u8 0,.int .u8 0,.int .u8 0,.int .u8 0,.int .u8 0,.string ⟨#[]⟩,.nilFunc,.nilFunc] 224)).drew) (am V _) hw
 have bt:Hid (∀H w',Below (H.alloc (.cells #[.int .u8 0,.int .u8 0,.int .u8 0,.int .u8 0,.int .u8 0,.int .u8 0,.string ⟨#[]⟩,.nilFunc,.nilFunc] 224)).heap.size (H.alloc (.cells #[.int .u8 0,.int .u8 0,.int .u8 0,.int .u8 0,.int .u8 0,.int .u8 0,.string ⟨#[]⟩,.nilFunc,.nilFunc] 224)) w'->w'.heap[H.heap.size]?=some (.cells #[.int .u8 0,.int .u8 0,.int .u8 0,.int .u8 0,.int .u8 0,.int .u8 0,.string ⟨#[]⟩,.nilFunc,.nilFunc] 224 (0,0))/\Below H.heap.size H w'):=fun H w' hw=>⟨af (am H _) hw,((gt _ H).alloc (ge _) _).trans (hw.mono (by show _<=(H.heap.push _).size;simp))⟩
 go_cut [5]from 7 to 12 (fun t9 wx=>∃q,t9=.pointer (some ⟨q,0,none⟩)/\Hid (Below V.heap.size V wx/\V.heap.size<=q/\wx.heap[q]?=some (.cells #[.int .u8 a,.int .u8 b',.int .u8 c,.int .u8 d,.int .u8 e',.int .u8 f',.string ⟨R.t.toArray⟩,.func (.func R.a.id) #[] #[],.func (.func R.b.id) #[] #[]] 224 (0,0))))
 case first=>
  clear h hz hm e hB hc hR ax bh
  go_region_law (first|(go_simp;go_at_call 121;refine(HI.out _ (by first|exact(gt _ _).drew|exact az.out)).mono ?_;rintro r1 H⟨rfl,ba⟩;have ay:=show Hid (Below V.heap.size V H)from(by first|exact(gt V.heap.size V).drew.trans (ba.mono (ge _))|exact az.out.trans (ba.mono az.out.size));obtain⟨⟨z0,z1,z2⟩,zt⟩:=HK.out _ ay.out;obtain⟨u0,u1,u2,u3,u4,u5⟩:=zt.cells;have bi:=Kg _ _ z0;have dm:=Kg _ _ u0;(try(have ci:=bu.out _ ba));clear ba zt)|(go_simp;go_at_call 129;refine(bb.out _).mono ?_;rintro r2 w2⟨rfl,hb2⟩;first|(have u:=af ci hb2;have bc:=show Hid (Below H.heap.size H w2)from hb2;have dc:=aa (k:=0) u rfl;have dd:=aa (k:=1) u rfl;have de:=aa (k:=2) u rfl;have df:=aa (k:=3) u rfl;have dg:=aa (k:=4) u rfl;have dh:=aa (k:=5) u rfl;have di:=aa (k:=6) u rfl;have dj:=aa (k:=7) u rfl;have dk:=aa (k:=8) u rfl;have zf:=fun j=>aj (k:=j) u;clear hb2 ci)|(have bj:=bt.out _ _ hb2;have u:=bj.1;have bc:=show Hid (Below H.heap.size H w2)from bj.2;have dc:=aa (k:=0) u rfl;have dd:=aa (k:=1) u rfl;have de:=aa (k:=2) u rfl;have df:=aa (k:=3) u rfl;have dg:=aa (k:=4) u rfl;have dh:=aa (k:=5) u rfl;have di:=aa (k:=6) u rfl;have dj:=aa (k:=7) u rfl;have dk:=aa (k:=8) u rfl;have zf:=fun j=>aj (k:=j) u;clear hb2 bj)|(have bc:=show Hid (Below H.heap.size H w2)from hb2;clear hb2)))
  all_goals(
   go_wp2_with fail
   go_meet
   have ah:=ay.out.trans (bc.out.mono ay.out.size)
   first
    | (refine⟨w2.heap.size,rfl,?_⟩;exact⟨ah.alloc ah.size _,ah.size,am w2 _⟩)
    | (refine⟨V.heap.size,rfl,?_⟩;have G:V.heap.size<=V.heap.size:=ge _;exact⟨(((((((((ah.setCell (p:=⟨V.heap.size,0,none⟩) G _).setCell (p:=⟨V.heap.size,1,none⟩) G _).setCell (p:=⟨V.heap.size,2,none⟩) G _).setCell (p:=⟨V.heap.size,3,none⟩) G _).setCell (p:=⟨V.heap.size,4,none⟩) G _).setCell (p:=⟨V.heap.size,5,none⟩) G _).setCell (p:=⟨V.heap.size,6,none⟩) G _).setCell (p:=⟨V.heap.size,7,none⟩) G _).setCell (p:=⟨V.heap.size,8,none⟩) G _),G,(ab (ab (ab (ab (ab (ab (ab (ab (ab u 0 (.int .u8 a)) 1 (.int .u8 b')) 2 (.int .u8 c)) 3 (.int .u8 d)) 4 (.int .u8 e')) 5 (.int .u8 f')) 6 (.string ⟨R.t.toArray⟩)) 7 (.func (.func R.a.id) #[] #[])) 8 (.func (.func R.b.id) #[] #[])).trans (by kernel_rfl)⟩)
    | (refine⟨H.heap.size,rfl,?_⟩;have G:V.heap.size<=H.heap.size:=ay.out.size;exact⟨(((((((((ah.setCell (p:=⟨H.heap.size,0,none⟩) G _).setCell (p:=⟨H.heap.size,1,none⟩) G _).setCell (p:=⟨H.heap.size,2,none⟩) G _).setCell (p:=⟨H.heap.size,3,none⟩) G _).setCell (p:=⟨H.heap.size,4,none⟩) G _).setCell (p:=⟨H.heap.size,5,none⟩) G _).setCell (p:=⟨H.heap.size,6,none⟩) G _).setCell (p:=⟨H.heap.size,7,none⟩) G _).setCell (p:=⟨H.heap.size,8,none⟩) G _),G,(ab (ab (ab (ab (ab (ab (ab (ab (ab u 0 (.int .u8 a)) 1 (.int .u8 b')) 2 (.int .u8 c)) 3 (.int .u8 d)) 4 (.int .u8 e')) 5 (.int .u8 f')) 6 (.string ⟨R.t.toArray⟩)) 7 (.func (.func R.a.id) #[] #[])) 8 (.func (.func R.b.id) #[] #[])).trans (by kernel_rfl)⟩))
 case rest=>
  obtain⟨q,rfl,HQ⟩:=hcut;obtain⟨H,hw1⟩:∃H,H=wc:=⟨wc,rfl⟩;subst hw1;obtain⟨s1,hs1⟩:∃s1,st.aws R.a.pz=s1:=⟨_,rfl⟩;obtain⟨s2,hs2⟩:∃s2,s1.emp t.f=s2:=⟨_,rfl⟩;obtain⟨I,hs3⟩:∃I,s2.endl=I:=⟨_,rfl⟩;obtain⟨F,hs4⟩:∃F,I.part=F:=⟨_,rfl⟩;have z1:Bz 900000002 s1:=by rw[<-hs1];exact(hz.aws _).mono (by have:=G8 R.a;omega)
  have z2:Bz 900000003 s2:=by rw[<-hs2];exact z1.emp _
  have z3:Bz 900000004 I:=by rw[<-hs3];exact z2.endl
  have z4:F.ws.length<=900000005:=by
   rw[<-hs4];unfold Sy.part
   split
   ·have:=z3.1;show(I.ws++[dS]).length<=_;simp;omega
   ·have:=z3.1;omega
  have e1:s1.ns≠[]:=by
   intro h0;have:=(Cs st R.a.pz).2.2;rw[hs1,h0,e]at this;simp at this
  have e3:I.ns=s1.ns:=by rw[<-hs3,EM,<-hs2,Hj]
  have e4:F.ns=s1.ns:=by rw[<-hs4,D3,e3]
  have co:∀x∈F.ns,x.b<=900000005:=fun x hx=>by rw[e4]at hx;have:=z1.2.2 x hx;omega
  have cn:F.ns.length<=900000005:=by rw[e4];have:=z1.2.1;omega
  have ch:∀m,s1.mr=some m->m<=s1.ws.length:=fun m h0=>by
   obtain⟨x1,x2,_⟩:=Cs st R.a.pz;rw[hs1]at x1 x2;have:=hm m (by rw[<-x1];exact h0);omega
  have be:Hid (LC S g W W.heap.size t q R.a.id R.b.id H st):=by
   have ce:Below W.heap.size W H:=hB.trans (HQ.out.1.mono hB.size);have cy:¬S W.heap.size:=fun hs=>by have:=h.lt _ hs;omega
   have cz:¬S q:=fun hs=>by have:=h.lt _ hs;have:=HQ.out.2.1;omega
   exact⟨⟨S,h.below ce,fun _ h=>.inl h,cy,cz⟩,Kp.of_below ce,af hT HQ.out.1,⟨_,_,_,_,_,_,_,HQ.out.2.2⟩,by have:=HQ.out.1.size;omega,ai HQ.out.2.2,h.sg⟩
  have HA:Hid (∀X,LC S g W W.heap.size t q R.a.id R.b.id X st->Kb R.a.id #[bv g] X fun J w'=>J=.returned (.tuple #[])/\LC S g W W.heap.size t q R.a.id R.b.id w' s1):=fun X M=>by
   obtain⟨Si,x1,x2,x3,x4⟩:=M.ex;refine(Br R.a x1 (by rw[e];simp) (hz.mono (by omega))).mono ?_;rintro J w'⟨rfl,m⟩;rw[hs1]at m;exact⟨rfl,M.step x2 x3 x4 m.w⟩
  have HP:Hid (∀X,LC S g W W.heap.size t q R.a.id R.b.id X s1->Kb 130 #[bv g,.int .i64 t.f] X fun J w'=>J=.returned (.tuple #[])/\LC S g W W.heap.size t q R.a.id R.b.id w' s2):=fun X M=>by
   obtain⟨Si,x1,x2,x3,x4⟩:=M.ex;refine(fO x1 (by have:=z1.1;omega) ch t.f).mono ?_;rintro J w'⟨rfl,m⟩;rw[hs2]at m;exact⟨rfl,M.step x2 x3 x4 m.w⟩
  have bm:Hid (∀X,LC S g W W.heap.size t q R.a.id R.b.id X s2->Kb 78 #[bv g] X fun J w'=>J=.returned (.tuple #[])/\LC S g W W.heap.size t q R.a.id R.b.id w' I):=fun X M=>by
   obtain⟨Si,x1,x2,x3,x4⟩:=M.ex;refine(jR x1 (by have:=z2.1;omega)).mono ?_;rintro J w'⟨rfl,m⟩;rw[hs3]at m;exact⟨rfl,M.step x2 x3 x4 m.w⟩
  have ad:Hid (∀X,LC S g W W.heap.size t q R.a.id R.b.id X I->Kb 116 #[bv g,.func (.func 131) #[] #[]] X fun J w'=>J=.returned (.bool (I.ws.any dr))/\LC S g W W.heap.size t q R.a.id R.b.id w' I):=fun X M=>by
   obtain⟨Si,x1,x2,x3,x4⟩:=M.ex;obtain⟨vn,vw,hv,_⟩:=x1.ex;refine(yQ hv (by have:=z3.1;omega)).mono ?_;rintro J w'⟨rfl,hb⟩;exact⟨rfl,M.below hb⟩
  have ak:Hid (∀X,LC S g W W.heap.size t q R.a.id R.b.id X I->I.pt=true/\I.ws.any dr=false->Kb 132 #[bv g] X fun J w'=>J=.returned (.tuple #[])/\LC S g W W.heap.size t q R.a.id R.b.id w' F):=fun X M hd=>by
   obtain⟨Si,x1,x2,x3,x4⟩:=M.ex;refine(gN x1 (by rw[e3];exact e1) (z3.mono (by omega))).mono ?_;rintro J w'⟨rfl,m⟩
   have e9:I.aw .S=F:=by
    rw[<-hs4];unfold Sy.part;rw[Kd hd];unfold Sy.aw;have:lZ .S I.ns=I.ns:=by cases I.ns with|nil=>rfl|cons x y=>rfl
    rw[this];rfl
   rw[e9]at m;exact⟨rfl,M.step x2 x3 x4 m.w⟩
  have ap:Hid (¬(I.pt=true/\I.ws.any dr=false)->I=F):=fun hd=>by rw[<-hs4];unfold Sy.part;rw[IO hd]
  have al:Hid (∀X,LC S g W W.heap.size t q R.a.id R.b.id X I->X.cell? ⟨g,7,none⟩=some (.bool I.pt)):=fun X M=>by
   obtain⟨Si,x1,x2,x3,x4⟩:=M.ex;obtain⟨vn,vw,hv,_⟩:=x1.ex;exact hv.sb.cells.2.2.2.2.2.2.2
  have bf:Hid ((st.leaf t).2=F.ws++[dT t.t]/\(st.leaf t).1=Sy.aws ⟨F.ns,[],none,true,false,false⟩ R.b.pz):=by
   unfold Sy.leaf;rw[e];simp only;rw[hR];have:st.ready R.a t.f=F:=by unfold Sy.ready;rw[hs1,hs2,hs3,hs4]
   rw[this];exact⟨rfl,rfl⟩
  have bx:=ku (kO t);have bz:=show Hid (F.ns≠[]/\F.ws.length<=900000005/\(∀x∈F.ns,x.b<=900000005)/\F.ns.length<=900000005)from⟨by rw[e4];exact e1,z4,co,cn⟩
  have eA:=Bo R.a;have eB:=Bo R.b;clear h hz hm e hB hT hc y0 y1 y2 hR ax bh bb HI HK t0 t1 t2 t3 t4 t5 cx cq HV cr az bu bt hs1 hs2 hs3 hs4 z1 z2 z3 z4 e1 e3 e4 co cn ch;obtain⟨r7,r8⟩:=be.out.rb.cells
  go_wp2_with fail
  refine(HA.out _ be.out).mono ?_;rintro J w2⟨rfl,bg⟩;obtain⟨t0,t1,t2,t3,t4,t5⟩:=bg.tb.cells;have bq:=show Hid (LC S g W W.heap.size t q R.a.id R.b.id w2 s1)from bg
  clear bg HA be r7 r8 eA
  go_upto_region 5 with(first|(go_at_call 130;refine(HP.out _ bq.out).mono ?_;rintro J w3⟨rfl,ca⟩;have br:=show Hid (LC S g W W.heap.size t q R.a.id R.b.id w3 s2)from ca;clear ca)|(go_at_call 78;refine(bm.out _ br.out).mono ?_;rintro J w4⟨rfl,hL4⟩;have au:=show Hid (LC S g W W.heap.size t q R.a.id R.b.id w4 I)from hL4;clear hL4))
  clear t0 t1 t2 t3 t4 t5 HP bm bq br;have c7:=al.out _ au.out;obtain⟨b9,bi⟩:∃b9:Bool,decide (I.pt=true/\I.ws.any dr=false)=b9:=⟨_,rfl⟩;have ac:=show Hid (decide (I.pt=true/\I.ws.any dr=false)=b9)from bi
  clear bi
  go_cut [31]from 23 to 31 (fun t9 wx=>t9=.bool b9/\Hid (LC S g W W.heap.size t q R.a.id R.b.id wx I))
  case first=>
   cases hp:I.pt with
   |false=>
    have HY:Hid (false=b9):=by rw[<-ac.out,Kr (fun h=>by rw[hp]at h;cases h.1)];exact rfl
    rw[hp]at c7;clear ac hp ak ap al
    go_wp2_with fail
    go_meet
    exact⟨by rw[HY.out],au⟩
   |true=>
    rw[hp]at c7;cases ha:I.ws.any dr with
    |true=>
     have HY:Hid (false=b9):=by rw[<-ac.out,Kr (fun h=>by rw[ha]at h;cases h.2)];exact rfl
     rw[ha]at ad;clear ac hp ha ak ap al
     go_wp2_with(go_at_call 116;refine(ad.out _ au.out).mono ?_;rintro J w5⟨rfl,av⟩;have an:=show Hid (LC S g W W.heap.size t q R.a.id R.b.id w5 I)from av;clear av)
     go_meet
     exact⟨by rw[HY.out],an⟩
    |false=>
     have HY:Hid (true=b9):=by rw[<-ac.out,Ku ⟨hp,ha⟩];exact rfl
     rw[ha]at ad;clear ac hp ha ak ap al
     go_wp2_with(go_at_call 116;refine(ad.out _ au.out).mono ?_;rintro J w5⟨rfl,av⟩;have an:=show Hid (LC S g W W.heap.size t q R.a.id R.b.id w5 I)from av;clear av)
     go_meet
     exact⟨by rw[HY.out],an⟩
  case rest=>
  obtain⟨rfl,an⟩:=hcut;obtain⟨w5,hw5⟩:∃w5,w5=wc:=⟨wc,rfl⟩;subst hw5;clear au c7
  go_upto_if 31 with fail
  go_cut []from 32 to 33 (fun wx=>Hid (LC S g W W.heap.size t q R.a.id R.b.id wx F))
  case first=>
   cases b9 with
   |true=>
    have HB:=show Hid (Kb 132 #[bv g] w5 fun J w'=>J=.returned (.tuple #[])/\LC S g W W.heap.size t q R.a.id R.b.id w' F)from ak.out _ an.out (KQ ac.out)
    clear ac ak ap al ad
    go_wp2_with(go_at_call 132;refine HB.out.mono ?_;rintro J O⟨rfl,cb⟩;have ae:=show Hid (LC S g W W.heap.size t q R.a.id R.b.id O F)from cb;clear cb)
    go_meet
    exact ae
   |false=>
    have ae:=show Hid (LC S g W W.heap.size t q R.a.id R.b.id w5 F)from(by have:=ap.out (ME ac.out);rw[<-this];exact an.out)
    clear ac ak ap al ad
    go_wp2_with fail
    go_meet
    exact ae
  case rest=>
  have ae:=hcut;obtain⟨O,da⟩:∃O,O=wc:=⟨wc,rfl⟩;subst da;clear hcut an ac ak ap al ad;obtain⟨vw,k1,⟨pw,cw,evw⟩,k3,k4⟩:=ae.out.lay;subst evw;obtain⟨aq,hvn⟩:∃aq,(O.cell? ⟨g,1,none⟩).getD undef=aq:=⟨_,rfl⟩;rw[hvn]at k4;have bp:=show Hid (∀V1 w3 v' l,Below O.heap.size O V1->Rd w3 v' l->V1.grownBy w3 (Value.slice pw F.ws.length cw).ownBlock->Nb V1 (.slice pw F.ws.length cw) v'->(SB w3 g false aq (.slice pw F.ws.length cw) F.mr.isSome (F.mr.getD 0:Nat) F.wr F.en F.pt)/\∀w5,Kp (fun k=>k=g) w3 w5->SB w5 g false aq (.slice none 0 0) false 0 true false false->∃Si,SS Si w5 g ⟨F.ns,[],none,true,false,false⟩/\Iq w5 q R.a.id R.b.id/\∀O aw,Mw Si g w5 O aw->An S g W O v' l aw)from k4
  have bo:=show Hid (∀X,Below O.heap.size O X->Rd X (.slice pw F.ws.length cw) F.ws)from(fun X M=>dG k3 M)
  obtain⟨t0,t1,t2,t3,t4,t5⟩:=ae.out.tb.cells;have cv:=ae.out.tq.1;have dp:=bz.out.2.1;have bd:=show Hid (∀X,Below O.heap.size O X->X.cell? ⟨g,2,none⟩=some (.slice pw F.ws.length cw)/\F6 X W.heap.size t)from(fun X M=>⟨bP k1 M,af ae.out.tb M⟩)
  clear k3 k4 hvn
  go_upto_region 7 with fail
  go_cut [6]from 34 to 41 (fun t9 wx=>∃p n c,t9=.slice p n c/\Hid ((SB wx g false aq (.slice pw F.ws.length cw) F.mr.isSome (F.mr.getD 0:Nat) F.wr F.en F.pt)/\∀w5,Kp (fun k=>k=g) wx w5->SB w5 g false aq (.slice none 0 0) false 0 true false false->∃Si,SS Si w5 g ⟨F.ns,[],none,true,false,false⟩/\Iq w5 q R.a.id R.b.id/\∀O aw,Mw Si g w5 O aw->An S g W O (.slice p n c) (F.ws++[dT t.t]) aw))
  case first=>
   have dl:=show Hid (Below O.heap.size O O.drew)from(gt _ _).drew
   go_region_law (first|(go_simp;go_at_call 133;refine(bx.out _).mono ?_;rintro J w7⟨rfl,cd⟩;have ar:=show Hid (Below O.heap.size O w7)from(gt O.heap.size O).drew.trans (cd.mono (ge _));have y1:=(bd.out _ ar.out).1;obtain⟨u0,u1,u2,u3,u4,u5⟩:=(bd.out _ ar.out).2.cells;have dn:=Kg _ _ y1;clear cd)|(refine zD (by rfl) _ _ (by rfl) (.slice pw F.ws.length cw) F.ws (dT t.t) (by rfl) (bo.out _ (ar.out.alloc ar.out.size _)) w7.heap.size 1 (by rfl) (am w7 _) (by omega) ?_;intro q9 cp w8 ck cf cj;have cu:=show Hid _ from bp.out _ _ _ _ (ar.out.alloc ar.out.size _) ck cf (by rcases cj with h|h;exact .inl h.symm;exact .inr ⟨q9,rfl,by omega⟩);clear ck cf cj))
   all_goals(
    go_wp2_with fail
    go_meet
    exact⟨_,_,_,rfl,cu⟩)
  case rest=>
  obtain⟨p9,n9,c9,rfl,HX⟩:=hcut;obtain⟨w8,hw8⟩:∃w8,w8=wc:=⟨wc,rfl⟩;subst hw8;have ag:=HX.out.1;obtain⟨c0,c1,c2,c3,c4,c5,c6,c7⟩:=ag.cells;have f2:=ag.frozen 2;have f3:=ag.frozen 3;have f4:=ag.frozen 4;have f5:=ag.frozen 5;have f6:=ag.frozen 6;have f7:=ag.frozen 7;have cg:Kp (fun k=>k=g) w8 ((((((w8.setCell ⟨g,2,none⟩ (.slice none 0 0)).setCell ⟨g,3,none⟩ (.bool false)).setCell ⟨g,4,none⟩ (.int .i64 0)).setCell ⟨g,6,none⟩ (.bool false)).setCell ⟨g,7,none⟩ (.bool false)).setCell ⟨g,5,none⟩ (.bool true)):=(((((Kp.set _ _ _ _).trans (Kp.set _ _ _ _)).trans (Kp.set _ _ _ _)).trans (Kp.set _ _ _ _)).trans (Kp.set _ _ _ _)).trans (Kp.set _ _ _ _);have cm:SB ((((((w8.setCell ⟨g,2,none⟩ (.slice none 0 0)).setCell ⟨g,3,none⟩ (.bool false)).setCell ⟨g,4,none⟩ (.int .i64 0)).setCell ⟨g,6,none⟩ (.bool false)).setCell ⟨g,7,none⟩ (.bool false)).setCell ⟨g,5,none⟩ (.bool true)) g false aq (.slice none 0 0) false 0 true false false:=ab (ab (ab (ab (ab (ab ag 2 _) 3 _) 4 _) 6 _) 7 _) 5 _;obtain⟨Si,x1,x2,x3⟩:=HX.out.2 _ cg cm;have bw:=ku x1;have bn:=ku x3;have r8:=x2.cells.2;obtain⟨w9,hw9⟩:∃w9,(((((w8.setCell ⟨g,2,none⟩ (.slice none 0 0)).setCell ⟨g,3,none⟩ (.bool false)).setCell ⟨g,4,none⟩ (.int .i64 0)).setCell ⟨g,6,none⟩ (.bool false)).setCell ⟨g,7,none⟩ (.bool false)).setCell ⟨g,5,none⟩ (.bool true)=w9:=⟨_,rfl⟩;rw[hw9]at r8;have ct:=show Hid ((((((w8.setCell ⟨g,2,none⟩ (.slice none 0 0)).setCell ⟨g,3,none⟩ (.bool false)).setCell ⟨g,4,none⟩ (.int .i64 0)).setCell ⟨g,6,none⟩ (.bool false)).setCell ⟨g,7,none⟩ (.bool false)).setCell ⟨g,5,none⟩ (.bool true)=w9)from hw9
  have bk:Hid (Kb R.b.id #[bv g] w9 fun J w'=>J=.returned (.tuple #[])/\An S g W w' (.slice p9 n9 c9) (st.leaf t).2 (st.leaf t).1):=by
   rw[<-hw9];obtain⟨y1,y2,y3,y4⟩:=bz.out;refine(Br R.b bw.out y1 ⟨by simp,by show F.ns.length<=_;omega,fun x hx=>by have:=y3 x hx;omega⟩).mono ?_;rintro J w'⟨rfl,m⟩;rw[bf.out.1,bf.out.2];exact⟨rfl,bn.out _ _ m.w⟩
  clear hw9 cg cm x1 x2 x3 ag HX bw bn bf bo bp bd ae t0 t1 t2 t3 t4 t5 k1 cv bx
  go_upto_region 10 with fail
  rw[ct.out];clear c0 c1 c2 c3 c4 c5 c6 c7 f2 f3 f4 f5 f6 f7
  go_wp2_with fail
  refine bk.out.mono ?_;rintro J db⟨rfl,hA⟩;have ad:=show Hid (An S g W db (.slice p9 n9 c9) (st.leaf t).2 (st.leaf t).1)from hA
  clear hA bk
  go_wp2_with fail
  go_ret
  exact⟨_,rfl,ad.out⟩
inductive pE|live (s:Sy)|done
def Sq (S:Nat->Prop) (W:World) (g:Nat):pE->Prop
 |.live s=>SS S W g s
 |.done=>SB W g true (.slice none 0 0) (.slice none 0 0) false 0 false false false/\S g/\∀k,S k->k<W.heap.size
theorem Sq.below {S:Nat->Prop}{st:pE}(h:Sq S W g st) (u:Below W.heap.size W W'):Sq S W' g st:=by
 cases st with
 |live s=>exact SS.below h u
 |done=>exact⟨h.1.below u,h.2.1,fun k F=>Kl (h.2.2 k F) u.size⟩
theorem Sq.kp {S T:Nat->Prop}{W W':World}{g:Nat}{st:pE}(h:Sq S W g st) (u:Kp T W W') (F:∀k,S k->¬T k):Sq S W' g st:=by
 cases st with
 |live s=>exact SS.kp h u F
 |done=>exact⟨h.1.kp u (F _ h.2.1),h.2.1,fun k G=>Kl (h.2.2 k G) u.size⟩
theorem Sq.lt {S:Nat->Prop}{W:World}{g:Nat}{st:pE}(h:Sq S W g st):∀k,S k->k<W.heap.size:=by cases st with|live s=>exact SS.lt h|done=>exact h.2.2
def Aq (S:Nat->Prop) (g:Nat) (W W':World) (v:Value) (l:List Dc) (st:pE):Prop:=
 (∃S',Sq S' W' g st/\(∀k,S' k->S k\/W.heap.size<=k)/\∀k,v.ownBlock=some k->(S k\/W.heap.size<=k)/\¬S' k)/\Rd W' v l/\Kp S W W'
theorem pu {S:Nat->Prop}{g:Nat}{W W':World}{st:pE}(h:Sq S W g st) (u:Kc W W'):Aq S g W W' (.slice none 0 0) [] st:=
 ⟨⟨S,h.below u,fun _ h=>.inl h,fun k e=>by cases e⟩,kX _,Kp.of_below u⟩
theorem F4 {S:Nat->Prop}{g:Nat}{W V W':World}{s F:Sy}(u:Kc W V) (m:Mw S g V W' F):Aq S g W W' (.slice none 0 0) [] (.live F):=by
 obtain⟨⟨G,H,I⟩,J⟩:=m;exact⟨⟨G,H,fun k M=>(I k M).imp id (fun e=>Kh u.size e),fun k e=>by cases e⟩,kX _,(Kp.of_below u).step J (fun _ _ h=>h)⟩
theorem F5 {S:Nat->Prop}{V:World}{v:Value}{l:List Dc}{G:Sy}(u:Kc W V) (m:An S g V W' v l G):Aq S g W W' v l (.live G):=by
 obtain⟨⟨H,I,J,F⟩,O,M⟩:=m;exact⟨⟨H,I,fun k hs=>(J k hs).imp id (fun e=>Kh u.size e),fun k e=>⟨(F k e).1.imp id (fun e=>Kh u.size e),(F k e).2⟩⟩,O,(Kp.of_below u).step M (fun _ _ h=>h)⟩
def oo (e:Ev):pE->Int × List Dc × pE
 |.done=>(4,[],.done)
 |.live s=>match zH s e with
  |none=>(130,[],.live s)
  |some (s',l)=>(0,l,.live s')
def ox:pE->Int × List Dc × pE
 |.done=>(4,[],.done)
 |.live s=>match zQ s with
  |none=>(130,[],.live s)
  |some l=>(0,l,.done)
def J1:pE->Prop
 |.done=>True
 |.live s=>Bz 400000000 s/\∀m,s.mr=some m->m<=s.ws.length
theorem tu (W:World):Kb 24 #[] W fun F w'=>F=.returned (bv W.heap.size)/\Sq (fun k=>k=W.heap.size) w' W.heap.size (.live IG)/\Below W.heap.size W w':=by
 have u:Hid (Sq (fun k=>k=W.heap.size) (W.alloc (.cells #[.bool false,.slice none 0 0,.slice none 0 0,.bool false,.int .i64 0,.bool false,.bool false,.bool false] 128)) W.heap.size (.live IG)/\Below W.heap.size W (W.alloc (.cells #[.bool false,.slice none 0 0,.slice none 0 0,.bool false,.int .i64 0,.bool false,.bool false,.bool false] 128))):=by
  refine⟨show SS _ _ _ _ from⟨⟨.slice none 0 0,.slice none 0 0,⟨am W _,LV _ 0 tN 3,kX _⟩,(fun k e=>by cases e),(fun k e=>by cases e)⟩,rfl,(fun k (e:k=W.heap.size)=>by rw[e];show _<(W.heap.push _).size;simp)⟩,(gt _ _).alloc (ge _) _⟩
 go_enter func24,ntmps24
 go_wp2_with fail
 go_ret
 exact⟨rfl,u.out⟩
theorem zG {S:Nat->Prop}{st:pE}(h:Sq S W g st) (hz:J1 st) (e:Ev) (ht:e.d.t.size<=9223372036854775807) :
  Kb 56 #[bv g,.agg #[.int .u8 e.k,.int .u8 e.n,.int .u8 e.d.k,.string e.d.t,.int .i64 e.d.a,.int .i64 e.d.l,.int .i64 e.d.c,.int .i64 e.d.f]] W fun M w'=>∃v,M=.returned (.tuple #[v,.int .i64 (oo e st).1])/\Aq S g W w' v (oo e st).2.1 (oo e st).2.2:=by
 obtain⟨V,hV⟩:∃V,W.alloc (.cells #[.int .u8 e.k,.int .u8 e.n,.int .u8 e.d.k,.string e.d.t,.int .i64 e.d.a,.int .i64 e.d.l,.int .i64 e.d.c,.int .i64 e.d.f] 135)=V:=⟨_,rfl⟩;have hB:Kc W V:=by rw[<-hV];exact(gt _ _).alloc (ge _) _
 have hE:Eb V W.heap.size e:=by rw[<-hV];exact am _ _
 have HV:=ku hV;have HB:=show Hid (Kc W V)from hB
 clear hV;cases st with
 |done=>
  have c0:V.cell? ⟨g,0,none⟩=some (.bool true):=(h.below hB).1.cells.1;have HR:=ku (dV c0);have HX:=ku (pu h hB);clear h hB hE c0
  go_enter func56,ntmps56
  go_upto_region 1 with fail
  rw[HV.out]
  go_wp2_with(go_at_call 77;refine HR.out.mono ?_;rintro r1 w1⟨rfl,rfl⟩)
  refine Kv (v:=.tuple #[.slice none 0 0,.int .i64 4]) (by simp[results,Tryz.f56,go_sem]) rfl ?_;exact⟨_,rfl,HX.out⟩
 |live s=>
  have hs:SS S V g s:=SS.below h hB;obtain⟨aa,ab⟩:=hz;obtain⟨vn0,vw0,hv0,_⟩:=hs.ex;have HR:=ku (dV hv0.sb.cells.1);have HT:=ku (wO hs (by have:=aa.2.1;omega) e ht);obtain⟨m0,m1,m2,m3,m4,m5,m6,m7⟩:=hE.cells
  by_cases u:s.may e=true
  ·have I:oo e (.live s)=(0,(s.step e).2,.live (s.step e).1):=by show(match zH s e with|none=>_|some (s',l)=>_)=_;unfold zH;rw[Kd u]
   rw[I];rw[u]at HT;have F:=show Hid (∀X,Kc V X->Eb X W.heap.size e/\SS S X g s/\Kc W X)from fun X H=>⟨af hE H,hs.below H,hB.trans (H.mono hB.size)⟩
   have ac:=show Hid (Bz 400000000 s/\∀m,s.mr=some m->m<=s.ws.length)from⟨aa,ab⟩
   by_cases J:e.k=1
   ·have HO:Hid (∀X,Kc V X->Kb 88 #[bv g,.int .u8 e.n] X fun M w'=>M=.returned (.tuple #[])/\Aq S g W w' (.slice none 0 0) (s.step e).2 (.live (s.step e).1)):=fun X H=>by
     refine(lg (F.out X H).2.1 (ac.out.1.mono (by omega)) e.n).mono ?_;rintro M w'⟨rfl,m⟩;have O:s.step e=(s.opens e.n,[]):=by unfold Sy.step;rw[Kd J]
     rw[O];exact⟨rfl,F4 (s:=s) (F.out X H).2.2 m⟩
    have q1:(e.k==1)=true:=by simpa using J
    clear h hB hE hs hv0 aa ab I u J
    go_enter func56,ntmps56
    go_upto_region 1 with fail
    rw[HV.out]
    go_wp2_with(first|(go_at_call 77;refine HR.out.mono ?_;rintro r1 w1⟨rfl,hw⟩;subst hw)|(go_at_call 87;refine HT.out.mono ?_;rintro r2 w2⟨rfl,hb2⟩;have G:=show Hid (Kc w1 w2)from hb2;obtain⟨n0,n1,n2,n3,n4,n5,n6,n7⟩:=(F.out _ hb2).1.cells;clear hb2)|(go_at_call 88;refine(HO.out _ G.out).mono ?_;rintro r3 w3⟨rfl,hA⟩;have HX:=ku hA;clear hA))
    refine Kv (v:=.tuple #[.slice none 0 0,.int .i64 0]) (by simp[results,Tryz.f56,go_sem]) rfl ?_;exact⟨_,rfl,HX.out⟩
   ·by_cases a2:e.k=3
    ·obtain⟨n,r,ad⟩:∃n r,s.ns=n :: r:=by
      unfold Sy.may at u;rw[IO J,Kd a2]at u;cases hq:s.ns with
      |nil=>rw[hq]at u;cases u
      |cons n r=>exact⟨n,r,rfl⟩
     have HO:Hid (∀X,Kc V X->Kb 89 #[bv g] X fun M w'=>M=.returned (.tuple #[])/\Aq S g W w' (.slice none 0 0) (s.step e).2 (.live (s.step e).1)):=fun X H=>by
      refine(ye (F.out X H).2.1 ac.out.1 ad).mono ?_;rintro M w'⟨rfl,m⟩;have O:s.step e=(s.leaves,[]):=by unfold Sy.step;rw[IO J,Kd a2]
      rw[O];exact⟨rfl,F4 (s:=s) (F.out X H).2.2 m⟩
     have q1:(e.k==1)=false:=by simpa using J
     have q2:(e.k==3)=true:=by simpa using a2
     clear h hB hE hs hv0 aa ab I u J a2 ad
     go_enter func56,ntmps56
     go_upto_region 1 with fail
     rw[HV.out]
     go_wp2_with(first|(go_at_call 77;refine HR.out.mono ?_;rintro r1 w1⟨rfl,hw⟩;subst hw)|(go_at_call 87;refine HT.out.mono ?_;rintro r2 w2⟨rfl,hb2⟩;have G:=show Hid (Kc w1 w2)from hb2;obtain⟨n0,n1,n2,n3,n4,n5,n6,n7⟩:=(F.out _ hb2).1.cells;clear hb2)|(go_at_call 89;refine(HO.out _ G.out).mono ?_;rintro r3 w3⟨rfl,hA⟩;have HX:=ku hA;clear hA))
     refine Kv (v:=.tuple #[.slice none 0 0,.int .i64 0]) (by simp[results,Tryz.f56,go_sem]) rfl ?_;exact⟨_,rfl,HX.out⟩
    ·by_cases a3:e.k=2
     ·obtain⟨n,r,ad⟩:∃n r,s.ns=n :: r:=by
       unfold Sy.may at u;rw[IO J,IO a2,Kd a3]at u;cases hq:s.ns with
       |nil=>rw[hq]at u;cases u
       |cons n r=>exact⟨n,r,rfl⟩
      have HO:Hid (∀X,Kc V X->Kb 90 #[bv g,.agg #[.int .u8 e.d.k,.string e.d.t,.int .i64 e.d.a,.int .i64 e.d.l,.int .i64 e.d.c,.int .i64 e.d.f]] X fun M w'=>∃v,M=.returned v/\Aq S g W w' v (s.step e).2 (.live (s.step e).1)):=fun X H=>by
       refine(AX (F.out X H).2.1 (ac.out.1.mono (by omega)) ac.out.2 ad e.d).mono ?_;rintro M w'⟨v,rfl,m⟩;have O:s.step e=s.leaf e.d:=by unfold Sy.step;rw[IO J,IO a2,Kd a3]
       rw[O];exact⟨v,rfl,F5 (F.out X H).2.2 m⟩
      have q1:(e.k==1)=false:=by simpa using J
      have q2:(e.k==3)=false:=by simpa using a2
      have q3:(e.k==2)=true:=by simpa using a3
      clear h hB hE hs hv0 aa ab I u J a2 a3 ad
      go_enter func56,ntmps56
      go_upto_region 1 with fail
      rw[HV.out]
      go_wp2_with(first|(go_at_call 77;refine HR.out.mono ?_;rintro r1 w1⟨rfl,hw⟩;subst hw)|(go_at_call 87;refine HT.out.mono ?_;rintro r2 w2⟨rfl,hb2⟩;have G:=show Hid (Kc w1 w2)from hb2;obtain⟨n0,n1,n2,n3,n4,n5,n6,n7⟩:=(F.out _ hb2).1.cells;clear hb2)|(go_at_call 90;refine(HO.out _ G.out).mono ?_;rintro r3 w3⟨v3,rfl,hA⟩;have HX:=ku hA;clear hA))
      refine Kv (v:=.tuple #[v3,.int .i64 0]) (by simp[results,Tryz.f56,go_sem]) rfl ?_;exact⟨_,rfl,HX.out⟩
     ·have a4:e.k=4:=by
       apply KG
       intro a4;unfold Sy.may at u;rw[IO J,IO a2,IO a3,IO a4]at u;cases u
      have HO:Hid (∀X,Kc V X->Kb 91 #[bv g,.agg #[.int .u8 e.d.k,.string e.d.t,.int .i64 e.d.a,.int .i64 e.d.l,.int .i64 e.d.c,.int .i64 e.d.f]] X fun M w'=>∃v,M=.returned v/\Aq S g W w' v (s.step e).2 (.live (s.step e).1)):=fun X H=>by
       refine(wV (F.out X H).2.1 (by have:=ac.out.1.1;omega) e.d).mono ?_;rintro M w'⟨v,rfl,m⟩;have O:s.step e=s.note e.d:=by unfold Sy.step;rw[IO J,IO a2,IO a3]
       rw[O];exact⟨v,rfl,F5 (F.out X H).2.2 m⟩
      have q1:(e.k==1)=false:=by simpa using J
      have q2:(e.k==3)=false:=by simpa using a2
      have q3:(e.k==2)=false:=by simpa using a3
      have q4:(e.k==4)=true:=by simpa using a4
      clear h hB hE hs hv0 aa ab I u J a2 a3 a4
      go_enter func56,ntmps56
      go_upto_region 1 with fail
      rw[HV.out]
      go_wp2_with(first|(go_at_call 77;refine HR.out.mono ?_;rintro r1 w1⟨rfl,hw⟩;subst hw)|(go_at_call 87;refine HT.out.mono ?_;rintro r2 w2⟨rfl,hb2⟩;have G:=show Hid (Kc w1 w2)from hb2;obtain⟨n0,n1,n2,n3,n4,n5,n6,n7⟩:=(F.out _ hb2).1.cells;clear hb2)|(go_at_call 91;refine(HO.out _ G.out).mono ?_;rintro r3 w3⟨v3,rfl,hA⟩;have HX:=ku hA;clear hA))
      refine Kv (v:=.tuple #[v3,.int .i64 0]) (by simp[results,Tryz.f56,go_sem]) rfl ?_;exact⟨_,rfl,HX.out⟩
  ·have ae:s.may e=false:=by simpa using u
   have I:oo e (.live s)=(130,[],.live s):=by show(match zH s e with|none=>_|some (s',l)=>_)=_;unfold zH;rw[IO u]
   rw[I];rw[ae]at HT;have HX:=ku fun X (H:Kc V X)=>pu (st:=.live s) h (hB.trans (H.mono hB.size))
   clear h hB hE hs hv0 aa ab I u ae
   go_enter func56,ntmps56
   go_upto_region 1 with fail
   rw[HV.out]
   go_wp2_with(first|(go_at_call 77;refine HR.out.mono ?_;rintro r1 w1⟨rfl,hw⟩;subst hw)|(go_at_call 87;refine HT.out.mono ?_;rintro r2 w2⟨rfl,hb2⟩;have G:=show Hid (Kc w1 w2)from hb2;clear hb2))
   refine Kv (v:=.tuple #[.slice none 0 0,.int .i64 130]) (by simp[results,Tryz.f56,go_sem]) rfl ?_;exact⟨_,rfl,HX.out _ G.out⟩
theorem sM {S:Nat->Prop}{st:pE}(h:Sq S W g st) (hz:J1 st) :
  Kb 41 #[bv g] W fun rr w'=>∃v,rr=.returned (.tuple #[v,.int .i64 (ox st).1])/\Aq S g W w' v (ox st).2.1 (ox st).2.2:=by
 cases st with
 |done=>
  have H:=ku (dV h.1.cells.1);have HX:=ku (pu (st:=.done) h (gt _ _));clear h
  go_enter func41,ntmps41
  go_wp2_with(go_at_call 77;refine H.out.mono ?_;rintro r1 w1⟨rfl,I⟩;subst I)
  refine Kv (v:=.tuple #[.slice none 0 0,.int .i64 4]) (by simp[results,Tryz.f41,go_sem]) rfl ?_;exact⟨_,rfl,HX.out⟩
 |live s=>
  have G:SS S W g s:=h;obtain⟨vn,vw,hv,v1,v2⟩:=G.ex;obtain⟨c0,c1,c2,c3,c4,c5,c6,c7⟩:=hv.sb.cells;have H:=ku (dV c0);obtain⟨pn,cn,en,_⟩:=az hv.rn
  by_cases F:s.ns=[]
  ·have u:ox (.live s)=(0,s.endl.ws,.done):=by show(match zQ s with|none=>_|some l=>_)=_;unfold zQ;rw[Kd F]
   rw[u];have ae:W.cell? ⟨g,1,none⟩=some (.slice pn 0 cn):=by rw[c1,en,F];rfl
   have HE:Hid (Kb 78 #[bv g] W fun rr w'=>rr=.returned (.tuple #[])/\∃p n c,w'.cell? ⟨g,2,none⟩=some (.slice p n c)/\(∃aa ac,SB w' g false aa ac s.endl.mr.isSome (s.endl.mr.getD 0:Nat) s.endl.wr s.endl.en s.endl.pt)/\∀J,Kp (fun k=>k=g) w' J->SB J g true (.slice none 0 0) (.slice none 0 0) false 0 false false false->Aq S g W J (.slice p n c) s.endl.ws .done):=by
    refine(jR G (by have:=hz.1.1;omega)).mono ?_;rintro rr w'⟨rfl,⟨S1,a1,a2⟩,hk,_⟩;obtain⟨aa,ac,hv1,x1,x2⟩:=a1.ex;obtain⟨p,c,e1,_⟩:=bG hv1.rd;subst e1;refine⟨rfl,p,_,c,hv1.sb.cells.2.2.1,⟨_,_,hv1.sb⟩,fun J M O=>?_⟩;have r5:Rd J (.slice p s.endl.ws.length c) s.endl.ws:=M.row hv1.rd (fun k e1 e2=>aE hv1.rd hv1.sb (by decide) (by rw[e1,e2]));have ad:(Value.slice p s.endl.ws.length c).ownBlock≠some g:=aE hv1.rd hv1.sb (by decide);refine⟨⟨fun k=>k=g,⟨O,rfl,fun k e=>by rw[e];exact O.lt⟩,fun k e=>.inl (by rw[e];exact G.sg),fun k e=>⟨a2 k (x2 k e),fun e2=>ad (by rw[<-e2];exact e)⟩⟩,r5,hk.step M (fun k _ e=>by rw[e];exact G.sg)⟩
   have q1:¬(0:Int)<0:=by omega
   clear h G hv v1 v2 c0 c1 c2 c3 c4 c5 c6 c7 en F u hz
   go_enter func41,ntmps41
   go_upto_region 8 with(first|(go_at_call 77;refine H.out.mono ?_;rintro r1 w1⟨rfl,I⟩;subst I)|(go_at_call 78;refine HE.out.mono ?_;rintro r2 w2⟨rfl,p2,n2,c2,y1,⟨vn2,vw2,y2⟩,y3⟩;have HY:=ku y3;clear y3))
   obtain⟨d0,d1,d2,d3,d4,d5,d6,d7⟩:=y2.cells;have f0:=y2.frozen 0;have f1:=y2.frozen 1;have f2:=y2.frozen 2;have f3:=y2.frozen 3;have f4:=y2.frozen 4;have f5:=y2.frozen 5;have f6:=y2.frozen 6;have f7:=y2.frozen 7;have HZ:=show Hid _ from HY.out ((((((((w2.setCell ⟨g,0,none⟩ (.bool true)).setCell ⟨g,1,none⟩ (.slice none 0 0)).setCell ⟨g,2,none⟩ (.slice none 0 0)).setCell ⟨g,3,none⟩ (.bool false)).setCell ⟨g,4,none⟩ (.int .i64 0)).setCell ⟨g,5,none⟩ (.bool false)).setCell ⟨g,6,none⟩ (.bool false)).setCell ⟨g,7,none⟩ (.bool false)) ((((((((Kp.set _ _ _ _).trans (Kp.set _ _ _ _)).trans (Kp.set _ _ _ _)).trans (Kp.set _ _ _ _)).trans (Kp.set _ _ _ _)).trans (Kp.set _ _ _ _)).trans (Kp.set _ _ _ _)).trans (Kp.set _ _ _ _)) (ab (ab (ab (ab (ab (ab (ab (ab y2 0 _) 1 _) 2 _) 3 _) 4 _) 5 _) 6 _) 7 _)
   clear HY y2 HE H
   go_wp2_with fail
   refine Kv (v:=.tuple #[.slice p2 n2 c2,.int .i64 0]) (by simp[results,Tryz.f41,go_sem]) rfl ?_;exact⟨_,rfl,HZ.out⟩
  ·have u:ox (.live s)=(130,[],.live s):=by show(match zQ s with|none=>_|some l=>_)=_;unfold zQ;rw[IO F]
   rw[u];have ae:W.cell? ⟨g,1,none⟩=some (.slice pn s.ns.length cn):=by rw[c1,en]
   have q1:(0:Int)<(s.ns.length:Int):=by have:s.ns.length≠0:=fun h0=>F (Kx h0);omega
   have HX:=ku (pu (st:=.live s) h (gt _ _));clear h G hv v1 v2 c0 c1 c2 c3 c4 c5 c6 c7 en F u hz
   go_enter func41,ntmps41
   go_wp2_with(go_at_call 77;refine H.out.mono ?_;rintro r1 w1⟨rfl,I⟩;subst I)
   refine Kv (v:=.tuple #[.slice none 0 0,.int .i64 130]) (by simp[results,Tryz.f41,go_sem]) rfl ?_;exact⟨_,rfl,HX.out⟩
