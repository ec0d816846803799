import Derived.Test.YtacohdpndpliaaaGreatDoorM35
set_option linter.all false
set_option maxHeartbeats 4000000
namespace Go.Proofs.YtacohdpndpliaaaGreatDoor
open Go.Proofs.Tryz
open Go.RowKit
open Lw (Dc bE rt cM dN fT j9 bW aY cr)
variable {W W':World}{g:Nat}{s s':Sy}{l:List Dc}
set_option maxRecDepth 100000 in
theorem EM {S:Nat->Prop}{st:Sy}(h:SS S W g st) (hz:Bz 900000000 st) (hm:∀m,st.mr=some m->m<=st.ws.length) {n:Nd}{r:List Nd}(e:st.ns=n :: r) (t:Tv) :
  Qu 153 #[bX g,.agg #[.int .u8 t.k,.string t.t,.int .i64 t.a,.int .i64 t.l,.int .i64 t.c,.int .i64 t.f]] W fun rr w'=>∃v,rr=.returned v/\An S g W w' v (st.leaf t).2 (st.leaf t).1:=by
 obtain ⟨V,hV⟩:∃V,W.alloc (.cells #[.int .u8 t.k,.string t.t,.int .i64 t.a,.int .i64 t.l,.int .i64 t.c,.int .i64 t.f] 53)=V:=⟨_,rfl⟩;have hB:Below W.heap.size W V:=by rw [<-hV];exact (hH _ _).alloc (gt _) _
 have hT:Lf V W.heap.size t:=by rw [<-hV];exact au _ _
 have hVs:V.heap.size=W.heap.size+1:=by rw [<-hV];show (W.heap.push _).size=_;simp
 have HV:Hid (W.alloc (.cells #[.int .u8 t.k,.string t.t,.int .i64 t.a,.int .i64 t.l,.int .i64 t.c,.int .i64 t.f] 53)=V):=hV;obtain ⟨b,cap,hc,y0,y1,y2,y3⟩:=(h.below hB).nodes e;obtain ⟨R,hR⟩:∃R,aG n t=R:=⟨_,rfl⟩
 obtain ⟨a,b',c,d,e',f',hsix⟩:∃a b c d e f,R.ns=[a,b,c,d,e,f]:=by
  rw [<-hR];unfold aG
  split
  ·cases hq:tab.find? (fun r=>r.fits n t.t) with
   |none=>exact ⟨0,0,0,0,0,0,rfl⟩
   |some x=>exact Qk (yE x (Th hq))
  ·exact ⟨0,0,0,0,0,0,rfl⟩
 have hRv:R.v=.agg #[.int .u8 a,.int .u8 b',.int .u8 c,.int .u8 d,.int .u8 e',.int .u8 f',.string ⟨R.t.toArray⟩,.func (.func R.a.id) #[] #[],.func (.func R.b.id) #[] #[]]:=by
  have:R=⟨[a,b',c,d,e',f'],R.t,R.a,R.b⟩:=by rw [<-hsix]
  rw [this];exact Kx _ _ _ _ _ _ _ _ _
 have HRow:Hid (∀X,Qu 241 #[.agg #[.int .u8 n.k,.int .i64 n.b,.bool n.s],.agg #[.int .u8 t.k,.string t.t,.int .i64 t.a,.int .i64 t.l,.int .i64 t.c,.int .i64 t.f]] X fun e w'=>e=.returned (.agg #[.int .u8 a,.int .u8 b',.int .u8 c,.int .u8 d,.int .u8 e',.int .u8 f',.string ⟨R.t.toArray⟩,.func (.func R.a.id) #[] #[],.func (.func R.b.id) #[] #[]])/\Below X.heap.size X w'):=fun X=>by rw [<-hRv,<-hR];exact A5 n t X
 have HI:Hid (∀X,Below V.heap.size V X->Qu 233 #[bX g] X fun rr w'=>rr=.returned (.pointer (some ⟨b,r.length*3,none⟩))/\Below X.heap.size X w'):=fun X hX=>fQ (bR hc hX) (by have:=hz.2.1;rw [e] at this;simp at this;omega)
 have HK:Hid (∀X,Below V.heap.size V X->(X.cell? ⟨b,r.length*3,none⟩=some (.int .u8 n.k)/\X.cell? ⟨b,r.length*3+1,none⟩=some (.int .i64 n.b)/\X.cell? ⟨b,r.length*3+2,none⟩=some (.bool n.s))/\Lf X W.heap.size t):=fun X hX=>⟨⟨bR y0 hX,bR y1 hX,bR y2 hX⟩,ag hT hX⟩
 obtain ⟨t0,t1,t2,t3,t4,t5⟩:=hT.cells;have hbl:=QD _ _ y0;have HVs:=show Hid (V.heap.size=W.heap.size+1) from hVs
 have hTlt:W.heap.size<V.heap.size:=by omega
 clear y3 hV hVs
 go_enter func153,ntmps153
 go_upto_region 1 with fail
 rw [HV.out];have HBz:Hid (Below V.heap.size V (V.alloc (.cells #[.int .u8 0,.int .u8 0,.int .u8 0,.int .u8 0,.int .u8 0,.int .u8 0,.string ⟨#[]⟩,.nilFunc,.nilFunc] 324)).drew):=((hH _ V).alloc (gt _) _).drew;have HQz:Hid (∀w',Below (V.alloc (.cells #[.int .u8 0,.int .u8 0,.int .u8 0,.int .u8 0,.int .u8 0,.int .u8 0,.string ⟨#[]⟩,.nilFunc,.nilFunc] 324)).drew.heap.size (V.alloc (.cells #[.int .u8 0,.int .u8 0,.int .u8 0,.int .u8 0,.int .u8 0,.int .u8 0,.string ⟨#[]⟩,.nilFunc,.nilFunc] 324)).drew w'->w'.heap[V.heap.size]?=some (.cells #[.int .u8 0,.int .u8 0,.int .u8 0,.int .u8 0,.int .u8 0,.int .u8 0,.string ⟨#[]⟩,.nilFunc,.nilFunc] 324 (0,0))):=fun w' hw=>ag (W:=(V.alloc (.cells #[.int .u8 0,.int .u8 0,.int .u8 0,.int .u8 0,.int .u8 0,.int .u8 0,.string ⟨#[]⟩,.nilFunc,.nilFunc] 324)).drew) (au V _) hw
 have HQy:Hid (∀w1 w',Below (w1.alloc (.cells #[.int .u8 0,.int .u8 0,.int .u8 0,.int .u8 0,.int .u8 0,.int .u8 0,.string ⟨#[]⟩,.nilFunc,.nilFunc] 324)).heap.size (w1.alloc (.cells #[.int .u8 0,.int .u8 0,.int .u8 0,.int .u8 0,.int .u8 0,.int .u8 0,.string ⟨#[]⟩,.nilFunc,.nilFunc] 324)) w'->w'.heap[w1.heap.size]?=some (.cells #[.int .u8 0,.int .u8 0,.int .u8 0,.int .u8 0,.int .u8 0,.int .u8 0,.string ⟨#[]⟩,.nilFunc,.nilFunc] 324 (0,0))/\Below w1.heap.size w1 w'):=fun w1 w' hw=>⟨ag (au w1 _) hw,((hH _ w1).alloc (gt _) _).trans (hw.mono (by show _<=(w1.heap.push _).size;simp))⟩
 go_cut [5] from 7 to 12 (fun t9 wx=>∃q,t9=.pointer (some ⟨q,0,none⟩)/\Hid (Below V.heap.size V wx/\V.heap.size<=q/\wx.heap[q]?=some (.cells #[.int .u8 a,.int .u8 b',.int .u8 c,.int .u8 d,.int .u8 e',.int .u8 f',.string ⟨R.t.toArray⟩,.func (.func R.a.id) #[] #[],.func (.func R.b.id) #[] #[]] 324 (0,0))))
 case first=>
  clear h hz hm e hB hc hR hsix hRv
  go_region_law (first|(go_simp;go_at_call 233;refine (HI.out _ (by first|exact (hH _ _).drew|exact HBz.out)).mono ?_;rintro r1 w1 ⟨rfl,hb1⟩;have HB1:=show Hid (Below V.heap.size V w1) from (by first|exact (hH V.heap.size V).drew.trans (hb1.mono (gt _))|exact HBz.out.trans (hb1.mono HBz.out.size));obtain ⟨⟨z0,z1,z2⟩,zt⟩:=HK.out _ HB1.out;obtain ⟨u0,u1,u2,u3,u4,u5⟩:=zt.cells;have hb9:=QD _ _ z0;have hbt:=QD _ _ u0;(try (have hq1:=HQz.out _ hb1));clear hb1 zt)|(go_simp;go_at_call 241;refine (HRow.out _).mono ?_;rintro r2 w2 ⟨rfl,hb2⟩;first|(have hq2:=ag hq1 hb2;have HB2:=show Hid (Below w1.heap.size w1 w2) from hb2;have zz0:=af (k:=0) hq2 rfl;have zz1:=af (k:=1) hq2 rfl;have zz2:=af (k:=2) hq2 rfl;have zz3:=af (k:=3) hq2 rfl;have zz4:=af (k:=4) hq2 rfl;have zz5:=af (k:=5) hq2 rfl;have zz6:=af (k:=6) hq2 rfl;have zz7:=af (k:=7) hq2 rfl;have zz8:=af (k:=8) hq2 rfl;have zf:=fun j=>am (k:=j) hq2;clear hb2 hq1)|(have hq5:=HQy.out _ _ hb2;have hq2:=hq5.1;have HB2:=show Hid (Below w1.heap.size w1 w2) from hq5.2;have zz0:=af (k:=0) hq2 rfl;have zz1:=af (k:=1) hq2 rfl;have zz2:=af (k:=2) hq2 rfl;have zz3:=af (k:=3) hq2 rfl;have zz4:=af (k:=4) hq2 rfl;have zz5:=af (k:=5) hq2 rfl;have zz6:=af (k:=6) hq2 rfl;have zz7:=af (k:=7) hq2 rfl;have zz8:=af (k:=8) hq2 rfl;have zf:=fun j=>am (k:=j) hq2;clear hb2 hq5)|(have HB2:=show Hid (Below w1.heap.size w1 w2) from hb2;clear hb2)))
  all_goals (
   go_wp2_with fail
   go_meet
   have hB12:=HB1.out.trans (HB2.out.mono HB1.out.size)
   first
    | (refine ⟨w2.heap.size,rfl,?_⟩;exact ⟨hB12.alloc hB12.size _,hB12.size,au w2 _⟩)
    | (refine ⟨V.heap.size,rfl,?_⟩;have hle:V.heap.size<=V.heap.size:=gt _;exact ⟨(((((((((hB12.setCell (p:=⟨V.heap.size,0,none⟩) hle _).setCell (p:=⟨V.heap.size,1,none⟩) hle _).setCell (p:=⟨V.heap.size,2,none⟩) hle _).setCell (p:=⟨V.heap.size,3,none⟩) hle _).setCell (p:=⟨V.heap.size,4,none⟩) hle _).setCell (p:=⟨V.heap.size,5,none⟩) hle _).setCell (p:=⟨V.heap.size,6,none⟩) hle _).setCell (p:=⟨V.heap.size,7,none⟩) hle _).setCell (p:=⟨V.heap.size,8,none⟩) hle _),hle,(aj (aj (aj (aj (aj (aj (aj (aj (aj hq2 0 (.int .u8 a)) 1 (.int .u8 b')) 2 (.int .u8 c)) 3 (.int .u8 d)) 4 (.int .u8 e')) 5 (.int .u8 f')) 6 (.string ⟨R.t.toArray⟩)) 7 (.func (.func R.a.id) #[] #[])) 8 (.func (.func R.b.id) #[] #[])).trans (by kernel_rfl)⟩)
    | (refine ⟨w1.heap.size,rfl,?_⟩;have hle:V.heap.size<=w1.heap.size:=HB1.out.size;exact ⟨(((((((((hB12.setCell (p:=⟨w1.heap.size,0,none⟩) hle _).setCell (p:=⟨w1.heap.size,1,none⟩) hle _).setCell (p:=⟨w1.heap.size,2,none⟩) hle _).setCell (p:=⟨w1.heap.size,3,none⟩) hle _).setCell (p:=⟨w1.heap.size,4,none⟩) hle _).setCell (p:=⟨w1.heap.size,5,none⟩) hle _).setCell (p:=⟨w1.heap.size,6,none⟩) hle _).setCell (p:=⟨w1.heap.size,7,none⟩) hle _).setCell (p:=⟨w1.heap.size,8,none⟩) hle _),hle,(aj (aj (aj (aj (aj (aj (aj (aj (aj hq2 0 (.int .u8 a)) 1 (.int .u8 b')) 2 (.int .u8 c)) 3 (.int .u8 d)) 4 (.int .u8 e')) 5 (.int .u8 f')) 6 (.string ⟨R.t.toArray⟩)) 7 (.func (.func R.a.id) #[] #[])) 8 (.func (.func R.b.id) #[] #[])).trans (by kernel_rfl)⟩))
 case rest=>
  obtain ⟨q,rfl,HQ⟩:=hcut;obtain ⟨w1,hw1⟩:∃w1,w1=wc:=⟨wc,rfl⟩;subst hw1;obtain ⟨s1,hs1⟩:∃s1,st.aws R.a.pz=s1:=⟨_,rfl⟩;obtain ⟨s2,hs2⟩:∃s2,s1.emp t.f=s2:=⟨_,rfl⟩;obtain ⟨s3,hs3⟩:∃s3,s2.endl=s3:=⟨_,rfl⟩;obtain ⟨s4,hs4⟩:∃s4,s3.part=s4:=⟨_,rfl⟩;have z1:Bz 900000002 s1:=by rw [<-hs1];exact (hz.aws _).mono (by have:=xO R.a;omega)
  have z2:Bz 900000003 s2:=by rw [<-hs2];exact z1.emp _
  have z3:Bz 900000004 s3:=by rw [<-hs3];exact z2.endl
  have z4:s4.ws.length<=900000005:=by
   rw [<-hs4];unfold Sy.part
   split
   ·have:=z3.1;show (s3.ws++[dS]).length<=_;simp;omega
   ·have:=z3.1;omega
  have e1:s1.ns≠[]:=by
   intro h0;have:=(Gq st R.a.pz).2.2;rw [hs1,h0,e] at this;simp at this
  have e3:s3.ns=s1.ns:=by rw [<-hs3,kR,<-hs2,tj]
  have e4:s4.ns=s1.ns:=by rw [<-hs4,nF,e3]
  have z4n:∀x∈s4.ns,x.b<=900000005:=fun x hx=>by rw [e4] at hx;have:=z1.2.2 x hx;omega
  have z4l:s4.ns.length<=900000005:=by rw [e4];have:=z1.2.1;omega
  have hm1:∀m,s1.mr=some m->m<=s1.ws.length:=fun m h0=>by
   obtain ⟨x1,x2,_⟩:=Gq st R.a.pz;rw [hs1] at x1 x2;have:=hm m (by rw [<-x1];exact h0);omega
  have HL1:Hid (LC S g W W.heap.size t q R.a.id R.b.id w1 st):=by
   have hbw:Below W.heap.size W w1:=hB.trans (HQ.out.1.mono hB.size);have hnT:¬S W.heap.size:=fun hs=>by have:=h.lt _ hs;omega
   have hnq:¬S q:=fun hs=>by have:=h.lt _ hs;have:=HQ.out.2.1;omega
   exact ⟨⟨S,h.below hbw,fun _ h=>.inl h,hnT,hnq⟩,Kp.of_below hbw,ag hT HQ.out.1,⟨_,_,_,_,_,_,_,HQ.out.2.2⟩,by have:=HQ.out.1.size;omega,aq HQ.out.2.2,h.sg⟩
  have HA:Hid (∀X,LC S g W W.heap.size t q R.a.id R.b.id X st->Qu R.a.id #[bX g] X fun rr w'=>rr=.returned (.tuple #[])/\LC S g W W.heap.size t q R.a.id R.b.id w' s1):=fun X hX=>by
   obtain ⟨Si,x1,x2,x3,x4⟩:=hX.ex;refine (Fc R.a x1 (by rw [e];simp) (hz.mono (by omega))).mono ?_;rintro rr w' ⟨rfl,m⟩;rw [hs1] at m;exact ⟨rfl,hX.step x2 x3 x4 m.w⟩
  have HP:Hid (∀X,LC S g W W.heap.size t q R.a.id R.b.id X s1->Qu 242 #[bX g,.int .i64 t.f] X fun rr w'=>rr=.returned (.tuple #[])/\LC S g W W.heap.size t q R.a.id R.b.id w' s2):=fun X hX=>by
   obtain ⟨Si,x1,x2,x3,x4⟩:=hX.ex;refine (ss x1 (by have:=z1.1;omega) hm1 t.f).mono ?_;rintro rr w' ⟨rfl,m⟩;rw [hs2] at m;exact ⟨rfl,hX.step x2 x3 x4 m.w⟩
  have HEn:Hid (∀X,LC S g W W.heap.size t q R.a.id R.b.id X s2->Qu 155 #[bX g] X fun rr w'=>rr=.returned (.tuple #[])/\LC S g W W.heap.size t q R.a.id R.b.id w' s3):=fun X hX=>by
   obtain ⟨Si,x1,x2,x3,x4⟩:=hX.ex;refine (mN x1 (by have:=z2.1;omega)).mono ?_;rintro rr w' ⟨rfl,m⟩;rw [hs3] at m;exact ⟨rfl,hX.step x2 x3 x4 m.w⟩
  have HAn:Hid (∀X,LC S g W W.heap.size t q R.a.id R.b.id X s3->Qu 243 #[bX g,.func (.func 244) #[] #[]] X fun rr w'=>rr=.returned (.bool (s3.ws.any bS))/\LC S g W W.heap.size t q R.a.id R.b.id w' s3):=fun X hX=>by
   obtain ⟨Si,x1,x2,x3,x4⟩:=hX.ex;obtain ⟨vn,vw,hv,_⟩:=x1.ex;refine (CC hv (by have:=z3.1;omega)).mono ?_;rintro rr w' ⟨rfl,hb⟩;exact ⟨rfl,hX.below hb⟩
  have HBl:Hid (∀X,LC S g W W.heap.size t q R.a.id R.b.id X s3->s3.pt=true/\s3.ws.any bS=false->Qu 245 #[bX g] X fun rr w'=>rr=.returned (.tuple #[])/\LC S g W W.heap.size t q R.a.id R.b.id w' s4):=fun X hX hd=>by
   obtain ⟨Si,x1,x2,x3,x4⟩:=hX.ex;refine (jt x1 (by rw [e3];exact e1) (z3.mono (by omega))).mono ?_;rintro rr w' ⟨rfl,m⟩
   have e9:s3.aw .S=s4:=by
    rw [<-hs4];unfold Sy.part;rw [IO hd];unfold Sy.aw;have:ig .S s3.ns=s3.ns:=by cases s3.ns with|nil=>rfl|cons x y=>rfl
    rw [this];rfl
   rw [e9] at m;exact ⟨rfl,hX.step x2 x3 x4 m.w⟩
  have HNp:Hid (¬(s3.pt=true/\s3.ws.any bS=false)->s3=s4):=fun hd=>by rw [<-hs4];unfold Sy.part;rw [Eq hd]
  have HCp:Hid (∀X,LC S g W W.heap.size t q R.a.id R.b.id X s3->X.cell? ⟨g,7,none⟩=some (.bool s3.pt)):=fun X hX=>by
   obtain ⟨Si,x1,x2,x3,x4⟩:=hX.ex;obtain ⟨vn,vw,hv,_⟩:=x1.ex;exact hv.sb.cells.2.2.2.2.2.2.2
  have HLf:Hid ((st.leaf t).2=s4.ws++[dT t.t]/\(st.leaf t).1=Sy.aws ⟨s4.ns,[],none,true,false,false⟩ R.b.pz):=by
   unfold Sy.leaf;rw [e];simp only;rw [hR];have:st.ready R.a t.f=s4:=by unfold Sy.ready;rw [hs1,hs2,hs3,hs4]
   rw [this];exact ⟨rfl,rfl⟩
  have HTx:Hid (∀X,Qu 246 #[.agg #[.int .u8 t.k,.string t.t,.int .i64 t.a,.int .i64 t.l,.int .i64 t.c,.int .i64 t.f]] X fun e w'=>e=.returned (.agg #[.int .u8 1,.string t.t,.int .i64 0,.int .i64 0,.bool false])/\Below X.heap.size X w'):=oE t;have HZ4:=show Hid (s4.ns≠[]/\s4.ws.length<=900000005/\(∀x∈s4.ns,x.b<=900000005)/\s4.ns.length<=900000005) from ⟨by rw [e4];exact e1,z4,z4n,z4l⟩
  have eA:=Fa R.a;have eB:=Fa R.b;clear h hz hm e hB hT hc y0 y1 y2 hR hsix hRv HRow HI HK t0 t1 t2 t3 t4 t5 hbl hTlt HV HVs HBz HQz HQy hs1 hs2 hs3 hs4 z1 z2 z3 z4 e1 e3 e4 z4n z4l hm1;obtain ⟨r7,r8⟩:=HL1.out.rb.cells
  go_wp2_with fail
  refine (HA.out _ HL1.out).mono ?_;rintro rr w2 ⟨rfl,hL2⟩;obtain ⟨t0,t1,t2,t3,t4,t5⟩:=hL2.tb.cells;have HL2:=show Hid (LC S g W W.heap.size t q R.a.id R.b.id w2 s1) from hL2
  clear hL2 HA HL1 r7 r8 eA
  go_upto_region 5 with (first|(go_at_call 242;refine (HP.out _ HL2.out).mono ?_;rintro rr w3 ⟨rfl,hL3⟩;have HL3:=show Hid (LC S g W W.heap.size t q R.a.id R.b.id w3 s2) from hL3;clear hL3)|(go_at_call 155;refine (HEn.out _ HL3.out).mono ?_;rintro rr w4 ⟨rfl,hL4⟩;have HL4:=show Hid (LC S g W W.heap.size t q R.a.id R.b.id w4 s3) from hL4;clear hL4))
  clear t0 t1 t2 t3 t4 t5 HP HEn HL2 HL3;have c7:=HCp.out _ HL4.out;obtain ⟨b9,hb9⟩:∃b9:Bool,decide (s3.pt=true/\s3.ws.any bS=false)=b9:=⟨_,rfl⟩;have HX9:=show Hid (decide (s3.pt=true/\s3.ws.any bS=false)=b9) from hb9
  clear hb9
  go_cut [31] from 23 to 31 (fun t9 wx=>t9=.bool b9/\Hid (LC S g W W.heap.size t q R.a.id R.b.id wx s3))
  case first=>
   cases hp:s3.pt with
   |false=>
    have HY:Hid (false=b9):=by rw [<-HX9.out,QH (fun h=>by rw [hp] at h;cases h.1)];exact rfl
    rw [hp] at c7;clear HX9 hp HBl HNp HCp
    go_wp2_with fail
    go_meet
    exact ⟨by rw [HY.out],HL4⟩
   |true=>
    rw [hp] at c7;cases ha:s3.ws.any bS with
    |true=>
     have HY:Hid (false=b9):=by rw [<-HX9.out,QH (fun h=>by rw [ha] at h;cases h.2)];exact rfl
     rw [ha] at HAn;clear HX9 hp ha HBl HNp HCp
     go_wp2_with (go_at_call 243;refine (HAn.out _ HL4.out).mono ?_;rintro rr w5 ⟨rfl,hL5⟩;have HL5:=show Hid (LC S g W W.heap.size t q R.a.id R.b.id w5 s3) from hL5;clear hL5)
     go_meet
     exact ⟨by rw [HY.out],HL5⟩
    |false=>
     have HY:Hid (true=b9):=by rw [<-HX9.out,QF ⟨hp,ha⟩];exact rfl
     rw [ha] at HAn;clear HX9 hp ha HBl HNp HCp
     go_wp2_with (go_at_call 243;refine (HAn.out _ HL4.out).mono ?_;rintro rr w5 ⟨rfl,hL5⟩;have HL5:=show Hid (LC S g W W.heap.size t q R.a.id R.b.id w5 s3) from hL5;clear hL5)
     go_meet
     exact ⟨by rw [HY.out],HL5⟩
  case rest=>
  obtain ⟨rfl,HL5⟩:=hcut;obtain ⟨w5,hw5⟩:∃w5,w5=wc:=⟨wc,rfl⟩;subst hw5;clear HL4 c7
  go_upto_if 31 with fail
  go_cut [] from 32 to 33 (fun wx=>Hid (LC S g W W.heap.size t q R.a.id R.b.id wx s4))
  case first=>
   cases b9 with
   |true=>
    have HB:=show Hid (Qu 245 #[bX g] w5 fun rr w'=>rr=.returned (.tuple #[])/\LC S g W W.heap.size t q R.a.id R.b.id w' s4) from HBl.out _ HL5.out (QS HX9.out)
    clear HX9 HBl HNp HCp HAn
    go_wp2_with (go_at_call 245;refine HB.out.mono ?_;rintro rr w6 ⟨rfl,hL6⟩;have HL6:=show Hid (LC S g W W.heap.size t q R.a.id R.b.id w6 s4) from hL6;clear hL6)
    go_meet
    exact HL6
   |false=>
    have HL6:=show Hid (LC S g W W.heap.size t q R.a.id R.b.id w5 s4) from (by have:=HNp.out (TJ HX9.out);rw [<-this];exact HL5.out)
    clear HX9 HBl HNp HCp HAn
    go_wp2_with fail
    go_meet
    exact HL6
  case rest=>
  have HL6:=hcut;obtain ⟨w6,hw6⟩:∃w6,w6=wc:=⟨wc,rfl⟩;subst hw6;clear hcut HL5 HX9 HBl HNp HCp HAn;obtain ⟨vw,k1,⟨pw,cw,evw⟩,k3,k4⟩:=HL6.out.lay;subst evw;obtain ⟨vnv,hvn⟩:∃vnv,(w6.cell? ⟨g,1,none⟩).getD undef=vnv:=⟨_,rfl⟩;rw [hvn] at k4;have HK4:=show Hid (∀V1 w3 v' l,Below w6.heap.size w6 V1->Rd w3 v' l->V1.grownBy w3 (Value.slice pw s4.ws.length cw).ownBlock->Nb V1 (.slice pw s4.ws.length cw) v'->(SB w3 g false vnv (.slice pw s4.ws.length cw) s4.mr.isSome (s4.mr.getD 0:Nat) s4.wr s4.en s4.pt)/\∀w5,Kp (fun k=>k=g) w3 w5->SB w5 g false vnv (.slice none 0 0) false 0 true false false->∃Si,SS Si w5 g ⟨s4.ns,[],none,true,false,false⟩/\ND w5 q R.a.id R.b.id/\∀w6 st6,Mw Si g w5 w6 st6->An S g W w6 v' l st6) from k4
  have HK3:=show Hid (∀X,Below w6.heap.size w6 X->Rd X (.slice pw s4.ws.length cw) s4.ws) from (fun X hX=>dm k3 hX)
  obtain ⟨t0,t1,t2,t3,t4,t5⟩:=HL6.out.tb.cells;have hTl:=HL6.out.tq.1;have hll:=HZ4.out.2.1;have HKc:=show Hid (∀X,Below w6.heap.size w6 X->X.cell? ⟨g,2,none⟩=some (.slice pw s4.ws.length cw)/\Lf X W.heap.size t) from (fun X hX=>⟨bR k1 hX,ag HL6.out.tb hX⟩)
  clear k3 k4 hvn
  go_upto_region 7 with fail
  go_cut [6] from 34 to 41 (fun t9 wx=>∃p n c,t9=.slice p n c/\Hid ((SB wx g false vnv (.slice pw s4.ws.length cw) s4.mr.isSome (s4.mr.getD 0:Nat) s4.wr s4.en s4.pt)/\∀w5,Kp (fun k=>k=g) wx w5->SB w5 g false vnv (.slice none 0 0) false 0 true false false->∃Si,SS Si w5 g ⟨s4.ns,[],none,true,false,false⟩/\ND w5 q R.a.id R.b.id/\∀w6 st6,Mw Si g w5 w6 st6->An S g W w6 (.slice p n c) (s4.ws++[dT t.t]) st6))
  case first=>
   have HBd:=show Hid (Below w6.heap.size w6 w6.drew) from (hH _ _).drew
   go_region_law (first|(go_simp;go_at_call 246;refine (HTx.out _).mono ?_;rintro rr w7 ⟨rfl,hb7⟩;have HB7:=show Hid (Below w6.heap.size w6 w7) from (hH w6.heap.size w6).drew.trans (hb7.mono (gt _));have y1:=(HKc.out _ HB7.out).1;obtain ⟨u0,u1,u2,u3,u4,u5⟩:=(HKc.out _ HB7.out).2.cells;have hg7:=QD _ _ y1;clear hb7)|(refine Dp (by rfl) _ _ (by rfl) (.slice pw s4.ws.length cw) s4.ws (dT t.t) (by rfl) (HK3.out _ (HB7.out.alloc HB7.out.size _)) w7.heap.size 1 (by rfl) (au w7 _) (by omega) ?_;intro q9 cp w8 hr8 hg8 hq8;have HX8:=show Hid _ from HK4.out _ _ _ _ (HB7.out.alloc HB7.out.size _) hr8 hg8 (by rcases hq8 with h|h;exact .inl h.symm;exact .inr ⟨q9,rfl,by omega⟩);clear hr8 hg8 hq8))
   all_goals (
    go_wp2_with fail
    go_meet
    exact ⟨_,_,_,rfl,HX8⟩)
  case rest=>
  obtain ⟨p9,n9,c9,rfl,HX⟩:=hcut;obtain ⟨w8,hw8⟩:∃w8,w8=wc:=⟨wc,rfl⟩;subst hw8;have hsb:=HX.out.1;obtain ⟨c0,c1,c2,c3,c4,c5,c6,c7⟩:=hsb.cells;have f2:=hsb.frozen 2;have f3:=hsb.frozen 3;have f4:=hsb.frozen 4;have f5:=hsb.frozen 5;have f6:=hsb.frozen 6;have f7:=hsb.frozen 7;have hk9:Kp (fun k=>k=g) w8 ((((((w8.setCell ⟨g,2,none⟩ (.slice none 0 0)).setCell ⟨g,3,none⟩ (.bool false)).setCell ⟨g,4,none⟩ (.int .i64 0)).setCell ⟨g,6,none⟩ (.bool false)).setCell ⟨g,7,none⟩ (.bool false)).setCell ⟨g,5,none⟩ (.bool true)):=(((((Kp.set _ _ _ _).trans (Kp.set _ _ _ _)).trans (Kp.set _ _ _ _)).trans (Kp.set _ _ _ _)).trans (Kp.set _ _ _ _)).trans (Kp.set _ _ _ _);have hs9:SB ((((((w8.setCell ⟨g,2,none⟩ (.slice none 0 0)).setCell ⟨g,3,none⟩ (.bool false)).setCell ⟨g,4,none⟩ (.int .i64 0)).setCell ⟨g,6,none⟩ (.bool false)).setCell ⟨g,7,none⟩ (.bool false)).setCell ⟨g,5,none⟩ (.bool true)) g false vnv (.slice none 0 0) false 0 true false false:=aj (aj (aj (aj (aj (aj hsb 2 _) 3 _) 4 _) 6 _) 7 _) 5 _;obtain ⟨Si,x1,x2,x3⟩:=HX.out.2 _ hk9 hs9;have HSi:=ai x1;have HFi:=ai x3;have r8:=x2.cells.2;obtain ⟨w9,hw9⟩:∃w9,(((((w8.setCell ⟨g,2,none⟩ (.slice none 0 0)).setCell ⟨g,3,none⟩ (.bool false)).setCell ⟨g,4,none⟩ (.int .i64 0)).setCell ⟨g,6,none⟩ (.bool false)).setCell ⟨g,7,none⟩ (.bool false)).setCell ⟨g,5,none⟩ (.bool true)=w9:=⟨_,rfl⟩;rw [hw9] at r8;have HW9:=show Hid ((((((w8.setCell ⟨g,2,none⟩ (.slice none 0 0)).setCell ⟨g,3,none⟩ (.bool false)).setCell ⟨g,4,none⟩ (.int .i64 0)).setCell ⟨g,6,none⟩ (.bool false)).setCell ⟨g,7,none⟩ (.bool false)).setCell ⟨g,5,none⟩ (.bool true)=w9) from hw9
  have HBe:Hid (Qu R.b.id #[bX g] w9 fun rr w'=>rr=.returned (.tuple #[])/\An S g W w' (.slice p9 n9 c9) (st.leaf t).2 (st.leaf t).1):=by
   rw [<-hw9];obtain ⟨y1,y2,y3,y4⟩:=HZ4.out;refine (Fc R.b HSi.out y1 ⟨by simp,by show s4.ns.length<=_;omega,fun x hx=>by have:=y3 x hx;omega⟩).mono ?_;rintro rr w' ⟨rfl,m⟩;rw [HLf.out.1,HLf.out.2];exact ⟨rfl,HFi.out _ _ m.w⟩
  clear hw9 hk9 hs9 x1 x2 x3 hsb HX HSi HFi HLf HK3 HK4 HKc HL6 t0 t1 t2 t3 t4 t5 k1 hTl HTx
  go_upto_region 10 with fail
  rw [HW9.out];clear c0 c1 c2 c3 c4 c5 c6 c7 f2 f3 f4 f5 f6 f7
  go_wp2_with fail
  refine HBe.out.mono ?_;rintro rr w10 ⟨rfl,hA⟩;have HAn:=show Hid (An S g W w10 (.slice p9 n9 c9) (st.leaf t).2 (st.leaf t).1) from hA
  clear hA HBe
  go_wp2_with fail
  go_ret
  exact ⟨_,rfl,HAn.out⟩
inductive wL|live (s:Sy)|done
def Sq (S:Nat->Prop) (W:World) (g:Nat):wL->Prop
 |.live s=>SS S W g s
 |.done=>SB W g true (.slice none 0 0) (.slice none 0 0) false 0 false false false/\S g/\∀k,S k->k<W.heap.size
theorem Sq.below {S:Nat->Prop}{st:wL}(h:Sq S W g st) (hb:Below W.heap.size W W'):Sq S W' g st:=by
 cases st with
 |live s=>exact SS.below h hb
 |done=>exact ⟨h.1.below hb,h.2.1,fun k hk=>QN (h.2.2 k hk) hb.size⟩
theorem Sq.kp {S T:Nat->Prop}{W W':World}{g:Nat}{st:wL}(h:Sq S W g st) (hk:Kp T W W') (hT:∀k,S k->¬T k):Sq S W' g st:=by
 cases st with
 |live s=>exact SS.kp h hk hT
 |done=>exact ⟨h.1.kp hk (hT _ h.2.1),h.2.1,fun k hs=>QN (h.2.2 k hs) hk.size⟩
theorem Sq.lt {S:Nat->Prop}{st:wL}(h:Sq S W g st):∀k,S k->k<W.heap.size:=by cases st with|live s=>exact SS.lt h|done=>exact h.2.2
def Aq (S:Nat->Prop) (g:Nat) (W W':World) (v:Value) (l:List Dc) (st:wL):Prop:=
 (∃S',Sq S' W' g st/\(∀k,S' k->S k\/W.heap.size<=k)/\∀k,v.ownBlock=some k->(S k\/W.heap.size<=k)/\¬S' k)/\Rd W' v l/\Kp S W W'
theorem tZ {S:Nat->Prop}{g:Nat}{W W':World}{st:wL}(h:Sq S W g st) (hb:Qv W W'):Aq S g W W' (.slice none 0 0) [] st:=
 ⟨⟨S,h.below hb,fun _ h=>.inl h,fun k e=>by cases e⟩,lG _,Kp.of_below hb⟩
theorem K8 {S:Nat->Prop}{g:Nat}{W V W':World}{s s':Sy}(hb:Qv W V) (m:Mw S g V W' s'):Aq S g W W' (.slice none 0 0) [] (.live s'):=by
 obtain ⟨⟨S1,a1,a2⟩,hk⟩:=m;exact ⟨⟨S1,a1,fun k hs=>(a2 k hs).imp id (fun e=>QC hb.size e),fun k e=>by cases e⟩,lG _,(Kp.of_below hb).step hk (fun _ _ h=>h)⟩
theorem La {S:Nat->Prop}{V:World}{v:Value}(hb:Qv W V) (m:An S g V W' v l s'):Aq S g W W' v l (.live s'):=by
 obtain ⟨⟨S1,a1,a2,a3⟩,hr,hk⟩:=m;exact ⟨⟨S1,a1,fun k hs=>(a2 k hs).imp id (fun e=>QC hb.size e),fun k e=>⟨(a3 k e).1.imp id (fun e=>QC hb.size e),(a3 k e).2⟩⟩,hr,(Kp.of_below hb).step hk (fun _ _ h=>h)⟩
def Br (e:Ev):wL->Int × List Dc × wL
 |.done=>(4,[],.done)
 |.live s=>match dC s e with
  |none=>(130,[],.live s)
  |some (s',l)=>(0,l,.live s')
def xF:wL->Int × List Dc × wL
 |.done=>(4,[],.done)
 |.live s=>match ik s with
  |none=>(130,[],.live s)
  |some l=>(0,l,.done)
def O6:wL->Prop
 |.done=>True
 |.live s=>Bz 400000000 s/\∀m,s.mr=some m->m<=s.ws.length
theorem xH (W:World):Qu 69 #[] W fun rr w'=>rr=.returned (bX W.heap.size)/\Sq (fun k=>k=W.heap.size) w' W.heap.size (.live oH)/\Below W.heap.size W w':=by
 have HX:Hid (Sq (fun k=>k=W.heap.size) (W.alloc (.cells #[.bool false,.slice none 0 0,.slice none 0 0,.bool false,.int .i64 0,.bool false,.bool false,.bool false] 234)) W.heap.size (.live oH)/\Below W.heap.size W (W.alloc (.cells #[.bool false,.slice none 0 0,.slice none 0 0,.bool false,.int .i64 0,.bool false,.bool false,.bool false] 234))):=by
  refine ⟨show SS _ _ _ _ from ⟨⟨.slice none 0 0,.slice none 0 0,⟨au W _,Rx _ 0 tN 3,lG _⟩,(fun k e=>by cases e),(fun k e=>by cases e)⟩,rfl,(fun k (e:k=W.heap.size)=>by rw [e];show _<(W.heap.push _).size;simp)⟩,(hH _ _).alloc (gt _) _⟩
 go_enter func69,ntmps69
 go_wp2_with fail
 go_ret
 exact ⟨rfl,HX.out⟩
theorem Dt {S:Nat->Prop}{st:wL}(h:Sq S W g st) (hz:O6 st) (e:Ev) (ht:e.d.t.size<=9223372036854775807) :
  Qu 71 #[bX g,.agg #[.int .u8 e.k,.int .u8 e.n,.int .u8 e.d.k,.string e.d.t,.int .i64 e.d.a,.int .i64 e.d.l,.int .i64 e.d.c,.int .i64 e.d.f]] W fun rr w'=>∃v,rr=.returned (.tuple #[v,.int .i64 (Br e st).1])/\Aq S g W w' v (Br e st).2.1 (Br e st).2.2:=by
 obtain ⟨V,hV⟩:∃V,W.alloc (.cells #[.int .u8 e.k,.int .u8 e.n,.int .u8 e.d.k,.string e.d.t,.int .i64 e.d.a,.int .i64 e.d.l,.int .i64 e.d.c,.int .i64 e.d.f] 139)=V:=⟨_,rfl⟩;have hB:Below W.heap.size W V:=by rw [<-hV];exact (hH _ _).alloc (gt _) _
 have hE:Eb V W.heap.size e:=by rw [<-hV];exact au _ _
 have HV:Hid (W.alloc (.cells #[.int .u8 e.k,.int .u8 e.n,.int .u8 e.d.k,.string e.d.t,.int .i64 e.d.a,.int .i64 e.d.l,.int .i64 e.d.c,.int .i64 e.d.f] 139)=V):=hV;have HB:=show Hid (Below W.heap.size W V) from hB
 clear hV;cases st with
 |done=>
  have c0:V.cell? ⟨g,0,none⟩=some (.bool true):=(h.below hB).1.cells.1;have HR:Hid (Qu 149 #[bX g] V fun r w'=>r=.returned (.int .i64 4)/\w'=V):=fG c0;have HX:Hid (Aq S g W V (.slice none 0 0) [] .done):=tZ h hB;clear h hB hE c0
  go_enter func71,ntmps71
  go_upto_region 1 with fail
  rw [HV.out]
  go_wp2_with (go_at_call 149;refine HR.out.mono ?_;rintro r1 w1 ⟨rfl,rfl⟩)
  refine QK (v:=.tuple #[.slice none 0 0,.int .i64 4]) (by simp [results,Tryz.f71,go_sem]) rfl ?_;exact ⟨_,rfl,HX.out⟩
 |live s=>
  have hs:SS S V g s:=SS.below h hB;obtain ⟨hz1,hz2⟩:=hz;obtain ⟨vn0,vw0,hv0,_⟩:=hs.ex;have HR:Hid (Qu 149 #[bX g] V fun r w'=>r=.returned (.int .i64 0)/\w'=V):=fG hv0.sb.cells.1;have HT:Hid (Qu 150 #[bX g,.agg #[.int .u8 e.k,.int .u8 e.n,.int .u8 e.d.k,.string e.d.t,.int .i64 e.d.a,.int .i64 e.d.l,.int .i64 e.d.c,.int .i64 e.d.f]] V fun rr w'=>rr=.returned (.bool (s.may e))/\Qv V w'):=AM hs (by have:=hz1.2.1;omega) e ht;obtain ⟨m0,m1,m2,m3,m4,m5,m6,m7⟩:=hE.cells
  by_cases hmay:s.may e=true
  ·have hpp:Br e (.live s)=(0,(s.step e).2,.live (s.step e).1):=by show (match dC s e with|none=>_|some (s',l)=>_)=_;unfold dC;rw [IO hmay]
   rw [hpp];rw [hmay] at HT;have HEb:=show Hid (∀X,Below V.heap.size V X->Eb X W.heap.size e/\SS S X g s/\Below W.heap.size W X) from fun X hX=>⟨ag hE hX,hs.below hX,hB.trans (hX.mono hB.size)⟩
   have HBz:=show Hid (Bz 400000000 s/\∀m,s.mr=some m->m<=s.ws.length) from ⟨hz1,hz2⟩
   by_cases a1:e.k=1
   ·have HO:Hid (∀X,Qv V X->Qu 151 #[bX g,.int .u8 e.n] X fun rr w'=>rr=.returned (.tuple #[])/\Aq S g W w' (.slice none 0 0) (s.step e).2 (.live (s.step e).1)):=fun X hX=>by
     refine (Ek (HEb.out X hX).2.1 (HBz.out.1.mono (by omega)) e.n).mono ?_;rintro rr w' ⟨rfl,m⟩;have hst:s.step e=(s.opens e.n,[]):=by unfold Sy.step;rw [IO a1]
     rw [hst];exact ⟨rfl,K8 (s:=s) (HEb.out X hX).2.2 m⟩
    have q1:(e.k == 1)=true:=by simpa using a1
    clear h hB hE hs hv0 hz1 hz2 hpp hmay a1
    go_enter func71,ntmps71
    go_upto_region 1 with fail
    rw [HV.out]
    go_wp2_with (first|(go_at_call 149;refine HR.out.mono ?_;rintro r1 w1 ⟨rfl,hw⟩;subst hw)|(go_at_call 150;refine HT.out.mono ?_;rintro r2 w2 ⟨rfl,hb2⟩;have HB2:=show Hid (Below w1.heap.size w1 w2) from hb2;obtain ⟨n0,n1,n2,n3,n4,n5,n6,n7⟩:=(HEb.out _ hb2).1.cells;clear hb2)|(go_at_call 151;refine (HO.out _ HB2.out).mono ?_;rintro r3 w3 ⟨rfl,hA⟩;have HX:=ai hA;clear hA))
    refine QK (v:=.tuple #[.slice none 0 0,.int .i64 0]) (by simp [results,Tryz.f71,go_sem]) rfl ?_;exact ⟨_,rfl,HX.out⟩
   ·by_cases a2:e.k=3
    ·obtain ⟨n,r,hne⟩:∃n r,s.ns=n :: r:=by
      unfold Sy.may at hmay;rw [Eq a1,IO a2] at hmay;cases hq:s.ns with
      |nil=>rw [hq] at hmay;cases hmay
      |cons n r=>exact ⟨n,r,rfl⟩
     have HO:Hid (∀X,Qv V X->Qu 152 #[bX g] X fun rr w'=>rr=.returned (.tuple #[])/\Aq S g W w' (.slice none 0 0) (s.step e).2 (.live (s.step e).1)):=fun X hX=>by
      refine (BH (HEb.out X hX).2.1 HBz.out.1 hne).mono ?_;rintro rr w' ⟨rfl,m⟩;have hst:s.step e=(s.leaves,[]):=by unfold Sy.step;rw [Eq a1,IO a2]
      rw [hst];exact ⟨rfl,K8 (s:=s) (HEb.out X hX).2.2 m⟩
     have q1:(e.k == 1)=false:=by simpa using a1
     have q2:(e.k == 3)=true:=by simpa using a2
     clear h hB hE hs hv0 hz1 hz2 hpp hmay a1 a2 hne
     go_enter func71,ntmps71
     go_upto_region 1 with fail
     rw [HV.out]
     go_wp2_with (first|(go_at_call 149;refine HR.out.mono ?_;rintro r1 w1 ⟨rfl,hw⟩;subst hw)|(go_at_call 150;refine HT.out.mono ?_;rintro r2 w2 ⟨rfl,hb2⟩;have HB2:=show Hid (Below w1.heap.size w1 w2) from hb2;obtain ⟨n0,n1,n2,n3,n4,n5,n6,n7⟩:=(HEb.out _ hb2).1.cells;clear hb2)|(go_at_call 152;refine (HO.out _ HB2.out).mono ?_;rintro r3 w3 ⟨rfl,hA⟩;have HX:=ai hA;clear hA))
     refine QK (v:=.tuple #[.slice none 0 0,.int .i64 0]) (by simp [results,Tryz.f71,go_sem]) rfl ?_;exact ⟨_,rfl,HX.out⟩
    ·by_cases a3:e.k=2
     ·obtain ⟨n,r,hne⟩:∃n r,s.ns=n :: r:=by
       unfold Sy.may at hmay;rw [Eq a1,Eq a2,IO a3] at hmay;cases hq:s.ns with
       |nil=>rw [hq] at hmay;cases hmay
       |cons n r=>exact ⟨n,r,rfl⟩
      have HO:Hid (∀X,Qv V X->Qu 153 #[bX g,.agg #[.int .u8 e.d.k,.string e.d.t,.int .i64 e.d.a,.int .i64 e.d.l,.int .i64 e.d.c,.int .i64 e.d.f]] X fun rr w'=>∃v,rr=.returned v/\Aq S g W w' v (s.step e).2 (.live (s.step e).1)):=fun X hX=>by
       refine (EM (HEb.out X hX).2.1 (HBz.out.1.mono (by omega)) HBz.out.2 hne e.d).mono ?_;rintro rr w' ⟨v,rfl,m⟩;have hst:s.step e=s.leaf e.d:=by unfold Sy.step;rw [Eq a1,Eq a2,IO a3]
       rw [hst];exact ⟨v,rfl,La (HEb.out X hX).2.2 m⟩
      have q1:(e.k == 1)=false:=by simpa using a1
      have q2:(e.k == 3)=false:=by simpa using a2
      have q3:(e.k == 2)=true:=by simpa using a3
      clear h hB hE hs hv0 hz1 hz2 hpp hmay a1 a2 a3 hne
      go_enter func71,ntmps71
      go_upto_region 1 with fail
      rw [HV.out]
      go_wp2_with (first|(go_at_call 149;refine HR.out.mono ?_;rintro r1 w1 ⟨rfl,hw⟩;subst hw)|(go_at_call 150;refine HT.out.mono ?_;rintro r2 w2 ⟨rfl,hb2⟩;have HB2:=show Hid (Below w1.heap.size w1 w2) from hb2;obtain ⟨n0,n1,n2,n3,n4,n5,n6,n7⟩:=(HEb.out _ hb2).1.cells;clear hb2)|(go_at_call 153;refine (HO.out _ HB2.out).mono ?_;rintro r3 w3 ⟨v3,rfl,hA⟩;have HX:=ai hA;clear hA))
      refine QK (v:=.tuple #[v3,.int .i64 0]) (by simp [results,Tryz.f71,go_sem]) rfl ?_;exact ⟨_,rfl,HX.out⟩
     ·have a4:e.k=4:=by
       apply Q1
       intro a4;unfold Sy.may at hmay;rw [Eq a1,Eq a2,Eq a3,Eq a4] at hmay;cases hmay
      have HO:Hid (∀X,Qv V X->Qu 154 #[bX g,.agg #[.int .u8 e.d.k,.string e.d.t,.int .i64 e.d.a,.int .i64 e.d.l,.int .i64 e.d.c,.int .i64 e.d.f]] X fun rr w'=>∃v,rr=.returned v/\Aq S g W w' v (s.step e).2 (.live (s.step e).1)):=fun X hX=>by
       refine (AS (HEb.out X hX).2.1 (by have:=HBz.out.1.1;omega) e.d).mono ?_;rintro rr w' ⟨v,rfl,m⟩;have hst:s.step e=s.note e.d:=by unfold Sy.step;rw [Eq a1,Eq a2,Eq a3]
       rw [hst];exact ⟨v,rfl,La (HEb.out X hX).2.2 m⟩
      have q1:(e.k == 1)=false:=by simpa using a1
      have q2:(e.k == 3)=false:=by simpa using a2
      have q3:(e.k == 2)=false:=by simpa using a3
      have q4:(e.k == 4)=true:=by simpa using a4
      clear h hB hE hs hv0 hz1 hz2 hpp hmay a1 a2 a3 a4
      go_enter func71,ntmps71
      go_upto_region 1 with fail
      rw [HV.out]
      go_wp2_with (first|(go_at_call 149;refine HR.out.mono ?_;rintro r1 w1 ⟨rfl,hw⟩;subst hw)|(go_at_call 150;refine HT.out.mono ?_;rintro r2 w2 ⟨rfl,hb2⟩;have HB2:=show Hid (Below w1.heap.size w1 w2) from hb2;obtain ⟨n0,n1,n2,n3,n4,n5,n6,n7⟩:=(HEb.out _ hb2).1.cells;clear hb2)|(go_at_call 154;refine (HO.out _ HB2.out).mono ?_;rintro r3 w3 ⟨v3,rfl,hA⟩;have HX:=ai hA;clear hA))
      refine QK (v:=.tuple #[v3,.int .i64 0]) (by simp [results,Tryz.f71,go_sem]) rfl ?_;exact ⟨_,rfl,HX.out⟩
  ·have hmay':s.may e=false:=by simpa using hmay
   have hpp:Br e (.live s)=(130,[],.live s):=by show (match dC s e with|none=>_|some (s',l)=>_)=_;unfold dC;rw [Eq hmay]
   rw [hpp];rw [hmay'] at HT;have HX:Hid (∀X,Qv V X->Aq S g W X (.slice none 0 0) [] (.live s)):=fun X hX=>tZ (st:=.live s) h (hB.trans (hX.mono hB.size))
   clear h hB hE hs hv0 hz1 hz2 hpp hmay hmay'
   go_enter func71,ntmps71
   go_upto_region 1 with fail
   rw [HV.out]
   go_wp2_with (first|(go_at_call 149;refine HR.out.mono ?_;rintro r1 w1 ⟨rfl,hw⟩;subst hw)|(go_at_call 150;refine HT.out.mono ?_;rintro r2 w2 ⟨rfl,hb2⟩;have HB2:=show Hid (Below w1.heap.size w1 w2) from hb2;clear hb2))
   refine QK (v:=.tuple #[.slice none 0 0,.int .i64 130]) (by simp [results,Tryz.f71,go_sem]) rfl ?_;exact ⟨_,rfl,HX.out _ HB2.out⟩
theorem xn {S:Nat->Prop}{st:wL}(h:Sq S W g st) (hz:O6 st) :
  Qu 72 #[bX g] W fun rr w'=>∃v,rr=.returned (.tuple #[v,.int .i64 (xF st).1])/\Aq S g W w' v (xF st).2.1 (xF st).2.2:=by
 cases st with
 |done=>
  have HR:Hid (Qu 149 #[bX g] W fun r w'=>r=.returned (.int .i64 4)/\w'=W):=fG h.1.cells.1;have HX:Hid (Aq S g W W (.slice none 0 0) [] .done):=tZ (st:=.done) h (hH _ _);clear h
  go_enter func72,ntmps72
  go_wp2_with (go_at_call 149;refine HR.out.mono ?_;rintro r1 w1 ⟨rfl,hw⟩;subst hw)
  refine QK (v:=.tuple #[.slice none 0 0,.int .i64 4]) (by simp [results,Tryz.f72,go_sem]) rfl ?_;exact ⟨_,rfl,HX.out⟩
 |live s=>
  have hs:SS S W g s:=h;obtain ⟨vn,vw,hv,v1,v2⟩:=hs.ex;obtain ⟨c0,c1,c2,c3,c4,c5,c6,c7⟩:=hv.sb.cells;have HR:Hid (Qu 149 #[bX g] W fun r w'=>r=.returned (.int .i64 0)/\w'=W):=fG c0;obtain ⟨pn,cn,en,_⟩:=aJ hv.rn
  by_cases hn:s.ns=[]
  ·have hpp:xF (.live s)=(0,s.endl.ws,.done):=by show (match ik s with|none=>_|some l=>_)=_;unfold ik;rw [IO hn]
   rw [hpp];have c1':W.cell? ⟨g,1,none⟩=some (.slice pn 0 cn):=by rw [c1,en,hn];rfl
   have HE:Hid (Qu 155 #[bX g] W fun rr w'=>rr=.returned (.tuple #[])/\∃p n c,w'.cell? ⟨g,2,none⟩=some (.slice p n c)/\(∃vn1 vw1,SB w' g false vn1 vw1 s.endl.mr.isSome (s.endl.mr.getD 0:Nat) s.endl.wr s.endl.en s.endl.pt)/\∀w5,Kp (fun k=>k=g) w' w5->SB w5 g true (.slice none 0 0) (.slice none 0 0) false 0 false false false->Aq S g W w5 (.slice p n c) s.endl.ws .done):=by
    refine (mN hs (by have:=hz.1.1;omega)).mono ?_;rintro rr w' ⟨rfl,⟨S1,a1,a2⟩,hk,_⟩;obtain ⟨vn1,vw1,hv1,x1,x2⟩:=a1.ex;obtain ⟨p,c,e1,_⟩:=bD hv1.rd;subst e1;refine ⟨rfl,p,_,c,hv1.sb.cells.2.2.1,⟨_,_,hv1.sb⟩,fun w5 hk5 hsb=>?_⟩;have r5:Rd w5 (.slice p s.endl.ws.length c) s.endl.ws:=hk5.row hv1.rd (fun k e1 e2=>aM hv1.rd hv1.sb (by decide) (by rw [e1,e2]));have hgne:(Value.slice p s.endl.ws.length c).ownBlock≠some g:=aM hv1.rd hv1.sb (by decide);refine ⟨⟨fun k=>k=g,⟨hsb,rfl,fun k e=>by rw [e];exact hsb.lt⟩,fun k e=>.inl (by rw [e];exact hs.sg),fun k e=>⟨a2 k (x2 k e),fun e2=>hgne (by rw [<-e2];exact e)⟩⟩,r5,hk.step hk5 (fun k _ e=>by rw [e];exact hs.sg)⟩
   have q1:¬(0:Int)<0:=by omega
   clear h hs hv v1 v2 c0 c1 c2 c3 c4 c5 c6 c7 en hn hpp hz
   go_enter func72,ntmps72
   go_upto_region 8 with (first|(go_at_call 149;refine HR.out.mono ?_;rintro r1 w1 ⟨rfl,hw⟩;subst hw)|(go_at_call 155;refine HE.out.mono ?_;rintro r2 w2 ⟨rfl,p2,n2,c2,y1,⟨vn2,vw2,y2⟩,y3⟩;have HY:=ai y3;clear y3))
   obtain ⟨d0,d1,d2,d3,d4,d5,d6,d7⟩:=y2.cells;have f0:=y2.frozen 0;have f1:=y2.frozen 1;have f2:=y2.frozen 2;have f3:=y2.frozen 3;have f4:=y2.frozen 4;have f5:=y2.frozen 5;have f6:=y2.frozen 6;have f7:=y2.frozen 7;have HZ:=show Hid _ from HY.out ((((((((w2.setCell ⟨g,0,none⟩ (.bool true)).setCell ⟨g,1,none⟩ (.slice none 0 0)).setCell ⟨g,2,none⟩ (.slice none 0 0)).setCell ⟨g,3,none⟩ (.bool false)).setCell ⟨g,4,none⟩ (.int .i64 0)).setCell ⟨g,5,none⟩ (.bool false)).setCell ⟨g,6,none⟩ (.bool false)).setCell ⟨g,7,none⟩ (.bool false)) ((((((((Kp.set _ _ _ _).trans (Kp.set _ _ _ _)).trans (Kp.set _ _ _ _)).trans (Kp.set _ _ _ _)).trans (Kp.set _ _ _ _)).trans (Kp.set _ _ _ _)).trans (Kp.set _ _ _ _)).trans (Kp.set _ _ _ _)) (aj (aj (aj (aj (aj (aj (aj (aj y2 0 _) 1 _) 2 _) 3 _) 4 _) 5 _) 6 _) 7 _)
   clear HY y2 HE HR
   go_wp2_with fail
   refine QK (v:=.tuple #[.slice p2 n2 c2,.int .i64 0]) (by simp [results,Tryz.f72,go_sem]) rfl ?_;exact ⟨_,rfl,HZ.out⟩
  ·have hpp:xF (.live s)=(130,[],.live s):=by show (match ik s with|none=>_|some l=>_)=_;unfold ik;rw [Eq hn]
   rw [hpp];have c1':W.cell? ⟨g,1,none⟩=some (.slice pn s.ns.length cn):=by rw [c1,en]
   have q1:(0:Int)<(s.ns.length:Int):=by have:s.ns.length≠0:=fun h0=>hn (QL h0);omega
   have HX:Hid (Aq S g W W (.slice none 0 0) [] (.live s)):=tZ (st:=.live s) h (hH _ _);clear h hs hv v1 v2 c0 c1 c2 c3 c4 c5 c6 c7 en hn hpp hz
   go_enter func72,ntmps72
   go_wp2_with (go_at_call 149;refine HR.out.mono ?_;rintro r1 w1 ⟨rfl,hw⟩;subst hw)
   refine QK (v:=.tuple #[.slice none 0 0,.int .i64 130]) (by simp [results,Tryz.f72,go_sem]) rfl ?_;exact ⟨_,rfl,HX.out⟩
def cL (l:List Nd):Nat:=(l.map (·.b)).sum
theorem bm (n:Nd) (l:List Nd):cL (n :: l)=n.b+cL l:=by simp [cL]
def fw (s:Sy):Nat:=s.ws.length+cL s.ns
theorem L9 (s:Sy) (p:Pz):fw (s.aw p)<=fw s+2/\(s.aw p).ns.length=s.ns.length/\(s.aw p).mr=s.mr/\s.ws.length<=(s.aw p).ws.length:=by
 refine ⟨?_,oe p s.ns,rfl,by rw [rJ,Or];omega⟩;have h1:=gA p s.ns
 have hn:cL (ig p s.ns)<=cL s.ns+1:=by
  cases hc:s.ns with
  |nil=>simp [ig,cL]
  |cons n r=>
   have hp:p.n<=1:=by cases p <;> simp [Pz.n]
   simp only [ig];rw [bm]
   split
   ·rw [bm];show n.b-1+cL r<=_;omega
   ·rw [bm];show n.b+p.n+cL r<=_;omega
 show (s.ws++jC p s.ns).length+cL (ig p s.ns)<=_
 rw [Or];unfold fw;omega
theorem fI (s:Sy) (l:List Pz):fw (s.aws l)<=fw s+2*l.length/\(s.aws l).ns.length=s.ns.length/\(s.aws l).mr=s.mr/\s.ws.length<=(s.aws l).ws.length:=by
 induction l generalizing s with
 |nil=>exact ⟨by simp [Sy.aws],rfl,rfl,gt _⟩
 |cons p l ih=>
  obtain ⟨a1,a2,a3,a4⟩:=ih (s.aw p);obtain ⟨b1,b2,b3,b4⟩:=L9 s p;rw [cf];exact ⟨by simp only [List.length_cons];omega,a2.trans b2,a3.trans b3,by omega⟩
def Mo (s:Sy):Prop:=∀m,s.mr=some m->m<=s.ws.length
theorem Mo.aws {s:Sy}(h:Mo s) (l:List Pz):Mo (s.aws l):=fun m hm=>by
 obtain ⟨_,_,a3,a4⟩:=fI s l;have:=h m (by rw [<-a3];exact hm);omega
theorem ia (s:Sy):fw s.exprIn<=fw s+4/\s.exprIn.ns.length=s.ns.length/\s.exprIn.mr=s.mr/\s.ws.length<=s.exprIn.ws.length:=by
 unfold Sy.exprIn
 split
 ·exact ⟨by omega,rfl,rfl,gt _⟩
 ·rename_i n r e
  have hb:cL s.ns=n.b+cL r:=by rw [e,bm]
  have key:∀l:List Pz,(∀p∈l,jC p s.ns=[p.d])->True:=fun _ _=>trivial
  by_cases h19:n.k=19
  ·obtain ⟨a1,a2,a3,a4⟩:=fI s [.S,.I 3];simp only [IO h19];refine ⟨?_,by show ((_:Nd) :: r).length=_;rw [e];rfl,a3,a4⟩
   have hw:(s.aws [.S,.I 3]).ws.length<=s.ws.length+2:=by
    show ((s.ws++jC .S s.ns)++jC (.I 3) (ig .S s.ns)).length<=_
    have:=gA .S s.ns;have:=gA (.I 3) (ig .S s.ns);rw [Or,Or];omega
   show (s.aws [.S,.I 3]).ws.length+cL (⟨n.k,n.b+1,true⟩ :: r)<=_
   rw [bm];unfold fw;rw [hb];show _+(n.b+1+cL r)<=_;omega
  ·by_cases h31:n.k=31/\n.s=false
   ·obtain ⟨a1,a2,a3,a4⟩:=fI s [.B0];simp only [Eq h19,IO h31];refine ⟨?_,by show ((_:Nd) :: r).length=_;rw [e];rfl,a3,a4⟩
    have hw:(s.aws [.B0]).ws.length<=s.ws.length+1:=by
     show (s.ws++jC .B0 s.ns).length<=_
     have:=gA .B0 s.ns;rw [Or];omega
    show (s.aws [.B0]).ws.length+cL (⟨n.k,n.b,true⟩ :: r)<=_
    rw [bm];unfold fw;rw [hb];show _+(n.b+cL r)<=_;omega
   ·simp only [Eq h19,Eq h31];refine ⟨?_,by show ((_:Nd) :: r).length=_;rw [e];rfl,by first|rfl|trivial,by first|exact gt _|trivial⟩;show s.ws.length+cL (⟨n.k,n.b,true⟩ :: r)<=_;rw [bm];unfold fw;rw [hb];show _+(n.b+cL r)<=_;omega
theorem Mo.exprIn (h:Mo s):Mo s.exprIn:=fun m hm=>by
 obtain ⟨_,_,a3,a4⟩:=ia s;have:=h m (by rw [<-a3];exact hm);omega
theorem Mo.mark (h:Mo s) (k:Int):Mo (s.mark k):=by
 unfold Sy.mark
 split
 ·intro m hm;cases hm;exact gt _
 ·exact h
theorem rf (s:Sy) (k:Int):fw (s.opens k)<=fw s+12/\(s.opens k).ns.length<=s.ns.length+1:=by
 obtain ⟨s1,hs1⟩:∃s1,(if k=21 then s.exprIn else s)=s1:=⟨_,rfl⟩
 have h1:fw s1<=fw s+4/\s1.ns.length=s.ns.length:=by
  rw [<-hs1];split
  ·exact ⟨(ia s).1,(ia s).2.1⟩
  ·exact ⟨by omega,rfl⟩
 have h2:fw (s1.mark k)=fw s1/\(s1.mark k).ns=s1.ns:=by unfold Sy.mark;split <;> exact ⟨rfl,rfl⟩
 have hl:(qA k).length<=1:=by unfold qA;split;simp;split <;> simp
 obtain ⟨a1,a2,_,_⟩:=fI { (s1.mark k) with ns:=⟨k,0,false⟩ :: (s1.mark k).ns } (qA k)
 have h3:fw ({ (s1.mark k) with ns:=⟨k,0,false⟩ :: (s1.mark k).ns }:Sy)=fw (s1.mark k):=by
  show (s1.mark k).ws.length+cL (⟨k,0,false⟩ :: (s1.mark k).ns)=_
  rw [bm];show _+(0+_)=_;unfold fw;omega
 have e:s.opens k=Sy.aws { (s1.mark k) with ns:=⟨k,0,false⟩ :: (s1.mark k).ns } (qA k):=by unfold Sy.opens;simp only;rw [hs1]
 rw [e];refine ⟨by rw [h3] at a1;omega,?_⟩;rw [a2];show ((⟨k,0,false⟩:Nd) :: (s1.mark k).ns).length<=_;rw [List.length_cons,h2.2,h1.2];omega
theorem Mo.opens (h:Mo s) (k:Int):Mo (s.opens k):=by
 unfold Sy.opens;simp only;refine Mo.aws ?_ _;have:Mo ((if k=21 then s.exprIn else s).mark k):=Mo.mark (by split;exact h.exprIn;exact h) k;exact this
theorem pf (s:Sy):fw s.leaves<=fw s+12/\s.leaves.ns.length<=s.ns.length:=by
 unfold Sy.leaves
 split
 ·exact ⟨by omega,gt _⟩
 ·rename_i n r e
  refine ⟨?_,by rw [e];simp⟩;show (s.ws++List.replicate n.b dX++(if n.k=1 then [dH] else [])).length+cL r<=_;unfold fw;rw [e,bm,Or,Or,Sw]
  split <;> simp <;> omega
theorem Mo.leaves (h:Mo s):Mo s.leaves:=by
 unfold Sy.leaves
 split
 ·exact h
 ·intro m hm;have:=h m hm;show m<=(s.ws++List.replicate _ dX++_).length;rw [Or,Or];omega
theorem Bv (s:Sy) (a:Fx) (f:Int):fw (s.ready a f)<=fw s+7/\(s.ready a f).ns.length=s.ns.length:=by
 obtain ⟨a1,a2,_,_⟩:=fI s a.pz;have hl:=xO a
 have e1:fw ((s.aws a.pz).emp f)<=fw (s.aws a.pz)+1:=by
  unfold Sy.emp
  split
  ·omega
  ·split
   ·omega
   ·rename_i m _ _
    show ((s.aws a.pz).ws.take m++dE :: (s.aws a.pz).ws.drop m).length+cL (s.aws a.pz).ns<=_
    unfold fw;simp only [Or,QX,List.length_cons,QU];omega
 have e2:∀u:Sy,fw u.endl<=fw u+1:=fun u=>by
  unfold Sy.endl
  split
  ·show (dH :: u.ws).length+cL u.ns<=_;unfold fw;simp;omega
  ·omega
 have e3:∀u:Sy,fw u.part<=fw u+1:=fun u=>by
  unfold Sy.part
  split
  ·show (u.ws++[dS]).length+cL u.ns<=_;unfold fw;simp;omega
  ·omega
 unfold Sy.ready;refine ⟨?_,by rw [nF,kR,tj,a2]⟩;have:=e3 ((s.aws a.pz).emp f).endl;have:=e2 ((s.aws a.pz).emp f);omega
theorem uV (s:Sy) (t:Tv):(s.leaf t).2.length+fw (s.leaf t).1<=fw s+12/\(s.leaf t).1.ns.length=s.ns.length:=by
 unfold Sy.leaf
 split
 ·exact ⟨by simp,rfl⟩
 ·rename_i n r e
  obtain ⟨a1,a2⟩:=Bv s (aG n t).a t.f;obtain ⟨b1,b2,_,_⟩:=fI ⟨(s.ready (aG n t).a t.f).ns,[],none,true,false,false⟩ (aG n t).b.pz;have hl:=xO (aG n t).b;refine ⟨?_,?_⟩
  ·show ((s.ready (aG n t).a t.f).ws++[dT t.t]).length+fw (Sy.aws ⟨(s.ready (aG n t).a t.f).ns,[],none,true,false,false⟩ (aG n t).b.pz)<=_
   have:fw ⟨(s.ready (aG n t).a t.f).ns,[],none,true,false,false⟩=cL (s.ready (aG n t).a t.f).ns:=by unfold fw;simp
   rw [this] at b1;unfold fw at a1;rw [Or];simp only [List.length_cons,List.length_nil];unfold fw at b1 ⊢;omega
  ·show (Sy.aws ⟨(s.ready (aG n t).a t.f).ns,[],none,true,false,false⟩ (aG n t).b.pz).ns.length=_
   rw [b2];exact a2
theorem Mo.leaf (h:Mo s) (t:Tv):Mo (s.leaf t).1:=by
 unfold Sy.leaf
 split
 ·exact h
 ·show Mo (Sy.aws ⟨_,[],none,true,false,false⟩ _)
  exact Mo.aws (fun m hm=>by cases hm) _
theorem uU (s:Sy) (t:Tv):(s.note t).2.length+fw (s.note t).1<=fw s+12/\(s.note t).1.ns.length=s.ns.length:=by
 have hsp:(s.ws.takeWhile bf).length+(s.ws.dropWhile bf).length=s.ws.length:=by
  rw [<-Or,SL]
 unfold Sy.note;simp only
 split
 ·refine ⟨?_,rfl⟩;show (s.ws.takeWhile bf++[dS,dT t.t]).length+((s.ws.dropWhile bf).length+cL s.ns)<=_;unfold fw;simp;omega
 ·refine ⟨?_,rfl⟩;show (s.ws.takeWhile bf++dH :: ((if _ then [dE] else [])++[dT t.t])).length+((s.ws.dropWhile bf).length+cL s.ns)<=_;unfold fw
  split <;> simp <;> omega
theorem Mo.note {s:Sy}(t:Tv):Mo (s.note t).1:=by
 unfold Sy.note;simp only
 split <;> (intro m hm;cases hm)
theorem IJ {e:Ev}(h:dC s e=some (s',l)):l.length+fw s'<=fw s+12/\s'.ns.length<=s.ns.length+1/\(Mo s->Mo s'):=by
 unfold dC at h
 split at h
 ·have h':=Q7 h;obtain ⟨e1,e2⟩:(s.step e).1=s'/\(s.step e).2=l:=⟨by rw [h'],by rw [h']⟩;rw [<-e1,<-e2];unfold Sy.step
  split
  ·exact ⟨by have:=(rf s e.n).1;simpa using this,(rf s e.n).2,fun h=>h.opens _⟩
  ·split
   ·exact ⟨by have:=(pf s).1;simpa using this,by have:=(pf s).2;show s.leaves.ns.length<=_;omega,fun h=>h.leaves⟩
   ·split
    ·exact ⟨(uV s e.d).1,by rw [(uV s e.d).2];omega,fun h=>h.leaf _⟩
    ·exact ⟨(uU s e.d).1,by rw [(uU s e.d).2];omega,fun _=>Mo.note _⟩
 ·cases h
theorem F9 {l:List Nd}{x:Nd}(h:x∈l):x.b<=cL l:=by
 induction l with
 |nil=>cases h
 |cons n r ih=>
  rw [bm]
  rcases QV.1 h with rfl|h
  ·omega
  ·have:=ih h;omega
theorem LK {s:Sy}{j:Nat}(h1:fw s<=12*j) (h2:s.ns.length<=j) (h3:Mo s) (hj:j<=30000000):O6 (.live s):=by
 unfold fw at h1;exact ⟨⟨by omega,by omega,fun x hx=>by have:=F9 hx;omega⟩,h3⟩
end Go.Proofs.YtacohdpndpliaaaGreatDoor
