import Derived.Lib.OthersKept
import Derived.Test.YtjiepkenkcgkhaaGreatDoorM06
set_option linter.unusedVariables false
set_option linter.unusedSimpArgs false
set_option maxHeartbeats 8000000
namespace Go.Proofs.YtjiepkenkcgkhaaGreatDoor.Lx
open Go.RowKit
variable {s:ByteArray}{a g f b:Nat}{w0 W W':World}{l:List Tv}
theorem Jd {p n:Int}(h:Rq w0 W g s a p n b f l) (hs:s.size<=2147483647) (ha:a<=s.size) :
  Ra 21 #[.pointer (some ⟨g,0,none⟩)] W fun e w'=>e=.returned (.tuple #[])/\Rs w0 w' g s a b f l/\Kp (fun k=>k=g) W w':=by
 obtain ⟨h1,h2,v,h3,h4⟩:=h;obtain ⟨c0,c1,c2,c3,c4,c5,c6,c7,c8⟩:=Rq.cells h3
 by_cases hlt:a<s.size
 ·have hd:=vT s a;obtain ⟨hw1,hw2,hw3⟩:=aV s a hlt
  have HN:Hid (∀w,Ra 49 #[.string s,.int .i64 a] w fun e w'=>e=.returned (.tuple #[.int .i64 (dp s a),.int .i64 (dw s a),.bool (gd s a)])/\Rc w w'):=fun w=>by
   have:=zm s a w (by unfold maxLen;omega) (by omega) (by omega);rw [Tu] at this;exact this
  have HR:Hid (∀w',Rc W w'->Rc w0 w'/\RB w' g s a p n b f v/\Rt w0.heap.size w' v l):=fun w' hb=>⟨h1.trans (hb.mono h1.size),ag h3 hb,h4.below hb⟩
  have HK:Hid (∀V,Rc W V->V.cell? ⟨g,0,none⟩=some (.string s)/\V.cell? ⟨g,1,none⟩=some (.int .i64 a)/\Rc W V):=fun V hV=>⟨af (ag h3 hV) rfl,af (ag h3 hV) rfl,hV⟩
  have e1:=gC hlt;have e2:=ce hlt;have HE:Hid (bf s a=dp s a/\fe s a=dw s a):=⟨e1,e2⟩
  generalize dp s a=x at *
  generalize dw s a=y at *
  generalize gd s a=z at *
  clear e1 e2 h1 h3 h4 c0 c1 c2 c3 c4 c5 c6 c7 c8
  go_enter Vp,Vd
  go_wp2_with fail
  go_region_held3 (fun w'=>w'.cell? ⟨g,0,none⟩=some (.string s)/\w'.cell? ⟨g,1,none⟩=some (.int .i64 a)/\Below W.heap.size W w') (first|(exact HK.out _ (by assumption))|(exact HK.out _ (hH _ _).drew)|go_keep) (first|(go_at_call 49;refine (HN.out _).mono ?_;rintro e w1 ⟨rfl,hb1⟩;have hbW:=(by first|exact (hH W.heap.size W).drew.trans (hb1.mono (gt _))|exact (by assumption:Below W.heap.size W _).trans (hb1.mono (TQ (by assumption))):Below W.heap.size W w1)))
  all_goals (
   obtain ⟨k1,k3,k4⟩:=HR.out _ hbW;have z2:=k3.frozen 2;have z3:=k3.frozen 3;obtain ⟨_,_,c2,c3,_⟩:=Rq.cells k3;obtain ⟨m1,m3,m4⟩:=Rq.set k1 h2 k3 k4 2 (.int .i32 x) (p':=x) rfl rfl;obtain ⟨n1,n3,n4⟩:=Rq.set m1 h2 m3 m4 3 (.int .i64 y) (n':=y) rfl rfl;have HF:Hid (Rs w0 ((w1.setCell ⟨g,2,none⟩ (.int .i32 x)).setCell ⟨g,3,none⟩ (.int .i64 y)) g s a b f l/\Kp (fun k=>k=g) W ((w1.setCell ⟨g,2,none⟩ (.int .i32 x)).setCell ⟨g,3,none⟩ (.int .i64 y))):=⟨⟨n1,h2,v,by rw [HE.out.1,HE.out.2];exact n3,n4⟩,((Kp.of_below hbW).step (Kp.set _ g 2 _) (fun _ _ h=>h)).step (Kp.set _ g 3 _) (fun _ _ h=>h)⟩;clear k1 k3 k4 m1 m3 m4 n1 n3 n4
   go_wp2_with fail
   go_end0
   exact ⟨rfl,HF.out⟩)
 ·have HN:Hid (∀w,Ra 49 #[.string s,.int .i64 a] w fun e w'=>e=.returned (.tuple #[.int .i64 0,.int .i64 0,.bool false])/\Rc w w'):=fun w=>uV s a w (by unfold maxLen;omega) (.inr (by omega))
  have HR:Hid (∀w',Rc W w'->Rc w0 w'/\RB w' g s a p n b f v/\Rt w0.heap.size w' v l):=fun w' hb=>⟨h1.trans (hb.mono h1.size),ag h3 hb,h4.below hb⟩
  have HK:Hid (∀V,Rc W V->V.cell? ⟨g,0,none⟩=some (.string s)/\V.cell? ⟨g,1,none⟩=some (.int .i64 a)/\Rc W V):=fun V hV=>⟨af (ag h3 hV) rfl,af (ag h3 hV) rfl,hV⟩
  have HE:Hid (bf s a=-1/\fe s a=0):=⟨kn (by omega),gm (by omega)⟩;clear h1 h3 h4 c0 c1 c2 c3 c4 c5 c6 c7 c8
  go_enter Vp,Vd
  go_wp2_with fail
  go_region_held3 (fun w'=>w'.cell? ⟨g,0,none⟩=some (.string s)/\w'.cell? ⟨g,1,none⟩=some (.int .i64 a)/\Below W.heap.size W w') (first|(exact HK.out _ (by assumption))|(exact HK.out _ (hH _ _).drew)|go_keep) (first|(go_at_call 49;refine (HN.out _).mono ?_;rintro e w1 ⟨rfl,hb1⟩;have hbW:=(by first|exact (hH W.heap.size W).drew.trans (hb1.mono (gt _))|exact (by assumption:Below W.heap.size W _).trans (hb1.mono (TQ (by assumption))):Below W.heap.size W w1)))
  all_goals (
   obtain ⟨k1,k3,k4⟩:=HR.out _ hbW;have z2:=k3.frozen 2;have z3:=k3.frozen 3;obtain ⟨_,_,c2,c3,_⟩:=Rq.cells k3;obtain ⟨m1,m3,m4⟩:=Rq.set k1 h2 k3 k4 2 (.int .i32 0) (p':=0) rfl rfl;obtain ⟨n1,n3,n4⟩:=Rq.set m1 h2 m3 m4 3 (.int .i64 0) (n':=0) rfl rfl;obtain ⟨o1,o3,o4⟩:=Rq.set n1 h2 n3 n4 2 (.int .i32 (-1)) (p':=-1) rfl rfl;have HF:Hid (Rs w0 (((w1.setCell ⟨g,2,none⟩ (.int .i32 0)).setCell ⟨g,3,none⟩ (.int .i64 0)).setCell ⟨g,2,none⟩ (.int .i32 (-1))) g s a b f l/\Kp (fun k=>k=g) W (((w1.setCell ⟨g,2,none⟩ (.int .i32 0)).setCell ⟨g,3,none⟩ (.int .i64 0)).setCell ⟨g,2,none⟩ (.int .i32 (-1)))):=⟨⟨o1,h2,v,by rw [HE.out.1,HE.out.2];exact o3,o4⟩,(((Kp.of_below hbW).step (Kp.set _ g 2 _) (fun _ _ h=>h)).step (Kp.set _ g 3 _) (fun _ _ h=>h)).step (Kp.set _ g 2 _) (fun _ _ h=>h)⟩;clear k1 k3 k4 m1 m3 m4 n1 n3 n4 o1 o3 o4
   go_wp2_with fail
   go_end0
   exact ⟨rfl,HF.out⟩)
theorem He (h:Rs w0 W g s a b f l) (hs:s.size<=2147483647) (ha:a<=s.size) :
  Ra 98 #[.pointer (some ⟨g,0,none⟩)] W fun e w'=>e=.returned (.tuple #[])/\Rs w0 w' g s (a+fe s a) b f l/\Kp (fun k=>k=g) W w':=by
 have hle:=DB s a ha;obtain ⟨h1,h2,v,h3,h4⟩:=h;obtain ⟨c0,c1,c2,c3,c4,c5,c6,c7,c8⟩:=Rq.cells h3;have z1:=h3.frozen 1;obtain ⟨m1,m3,m4⟩:=Rq.set h1 h2 h3 h4 1 (.int .i64 ((a+fe s a:Nat):Int)) (a':=a+fe s a) rfl rfl;have hwr:IntKind.i64.wrap ((a:Int)+(fe s a:Int))=(a:Int)+(fe s a:Int):=by rw [RA];omega
 have HL:Hid (∀V,Below (W.setCell ⟨g,1,none⟩ (.int .i64 ((a:Int)+(fe s a:Int)))).heap.size (W.setCell ⟨g,1,none⟩ (.int .i64 ((a:Int)+(fe s a:Int)))) V->Ra 21 #[.pointer (some ⟨g,0,none⟩)] V fun e w'=>e=.returned (.tuple #[])/\Rs w0 w' g s (a+fe s a) b f l/\Kp (fun k=>k=g) W w'):=by
  intro V hV;rw [Ve] at m1 m3 m4;refine (Jd (Rq.below ⟨m1,h2,v,m3,m4⟩ hV) hs hle).mono ?_;rintro e w' ⟨rfl,r1,r2⟩;exact ⟨rfl,r1,((Kp.set W g 1 _).step (Kp.of_below (S:=fun k=>k=g) hV) (fun _ _ h=>h)).step r2 (fun _ _ h=>h)⟩
 generalize fe s a=y at *
 clear h1 h3 h4 m1 m3 m4
 go_enter Tryz.func98,Tryz.ntmps98
 go_wp2_with fail
 go_region_law (fail)
 all_goals (
  go_wp2_with (go_at_call 21;refine (HL.out _ (hH _ _).drew).mono ?_;rintro e w1 ⟨rfl,h5⟩)
  go_end0
  exact ⟨rfl,h5⟩)
theorem Rs.kp {w0 W W':World}{g:Nat}{s:ByteArray}{a b f:Nat}{l:List Tv}{S:Nat->Prop}(h:Rs w0 W g s a b f l) (hb:Below w0.heap.size W W') (hk:Kp S W W') (hg:¬S g) (hv:∀k cs T z,W.heap[k]?=some (.cells cs T z)->¬S k):Rs w0 W' g s a b f l:=by
 obtain ⟨h1,h2,v,h3,h4⟩:=h;refine ⟨h1.trans hb,h2,v,hk.blk h3 hg,?_⟩;refine h4.kp hk (fun k e=>?_)
 rcases h4.2 with ⟨rfl,_⟩|⟨q,cap,cur,rfl,_,x3,_⟩
 ·cases e
 ·simp only [Value.ownBlock,Rp] at e;subst e;exact hv _ _ _ _ x3
theorem Qr (h:ak s a=6):(sg s a).size≠0:=by
 unfold ak at h
 repeat' split at h
 all_goals first|assumption|(cases h;done)
theorem N1:∀x∈bh,ay x 0<128/\(x.size=2->ay x 1<128):=by decide
theorem Dp (hK:nX w0) (h:Rs w0 W g s a a f l) (hs:s.size<=2147483647) (ha:a<s.size) (hb:bd s a) (hk:ak s a=6) (hl:l.length<=2147483647) :
  Ra 59 #[.pointer (some ⟨g,0,none⟩)] W fun e w'=>e=.returned (.int .i64 ((ap s a 6).2:Nat))/\TP w0 w' g s 6 a f l:=by
 have hE:ap s a 6=(a+(sg s a).size,0):=by unfold ap;simp
 have hz:=Qr hk;obtain ⟨g1,g2,g3⟩:=jJ s a hz;have g4:=(uu _ g3).1;have g5:=N1 _ g3
 have hby:∀j,j<(sg s a).size->ay s (a+j)=ay (sg s a) j/\ay (sg s a) j<128:=fun j hj=>by
  have e:=aR s a (a+(sg s a).size) j (by omega);rw [g2] at e;refine ⟨e.symm,?_⟩
  rcases (show j=0\/(j=1/\(sg s a).size=2) by omega) with rfl|⟨rfl,h2⟩
  ·exact g5.1
  ·exact g5.2 h2
 have HTk:Hid (∀V j,j<(sg s a).size->Rs w0 V g s (a+j) a f l->Ra 98 #[.pointer (some ⟨g,0,none⟩)] V fun e w'=>e=.returned (.tuple #[])/\Rs w0 w' g s (a+(j+1)) a f l/\Kp (fun k=>k=g) V w'):=fun V j hj hV=>by
  have:=He hV hs (by omega);rw [ce (by omega),(bq s (a+j) (by rw [(hby j hj).1];exact (hby j hj).2)).1] at this;exact this
 have HDc:Hid (∀j,j<(sg s a).size->(Utf8.decode (sg s a) j).2=1/\(Utf8.decode (sg s a) j).1<128):=fun j hj=>by
  obtain ⟨e1,e2,_⟩:=bq (sg s a) j (hby j hj).2;unfold dw at e1;unfold dp at e2;exact ⟨e1,by rw [e2];exact (hby j hj).2⟩
 obtain ⟨x,hx⟩:∃x,sg s a=x:=⟨_,rfl⟩;have HTl:Hid (∀V,Rs w0 V g s (a+x.size) a f l->Ra 101 #[.pointer (some ⟨g,0,none⟩),.int .u8 6] V fun e w'=>e=.returned (.int .i64 0)/\Rs w0 w' g s (a+x.size) a 0 (l++[tv s (cM s 6 a (a+x.size) f)])):=fun V hV=>da hV 6 hs (by omega) (by rw [<-hx];exact g1) hl (by intro h;cases h)
 have HS:Hid (∀V,Below W.heap.size W V->Ra 107 #[.string s,.int .i64 a] V fun e w'=>e=.returned (.string x)/\Below V.heap.size V w'):=fun V hV=>by
  rw [<-hx];exact yG s a V (hK.below (h.bel.trans (hV.mono h.bel.size))).2.2 ha
 have HE:Hid (ap s a 6=(a+x.size,0)):=by rw [<-hx];exact hE
 rw [hx] at HTk HDc hz g4;have HR:Hid (∀V,Below W.heap.size W V->Rs w0 V g s a a f l):=fun V hV=>h.below hV
 have HK:Hid (∀V,Below W.heap.size W V->V.cell? ⟨g,0,none⟩=some (.string s)/\V.cell? ⟨g,1,none⟩=some (.int .i64 a)/\Below W.heap.size W V):=fun V hV=>by
  obtain ⟨h1,h2,v,h3,h4⟩:=Rq.below h hV;exact ⟨(Rq.cells h3).1,(Rq.cells h3).2.1,hV⟩
 have hxe:x.toList.isEmpty=false:=by
  cases e:x.toList with
  |cons _ _=>rfl
  |nil=>
   rw [ka] at e;have:x.data.toList.length=0:=by rw [e];rfl
   rw [RG] at this;exact absurd this hz
 clear hE g1 g2 g3 g5 hby hx h hk
 go_enter Tryz.func59,Tryz.ntmps59
 go_wp2_with fail
 go_region_held3 (fun w'=>w'.cell? ⟨g,0,none⟩=some (.string s)/\w'.cell? ⟨g,1,none⟩=some (.int .i64 a)/\Below W.heap.size W w') (first|(exact HK.out _ (by assumption))|(exact HK.out _ (hH _ _).drew)|go_keep) (first|(go_at_call 107;refine (HS.out _ (by first|assumption|exact (hH _ _).drew)).mono ?_;rintro e w1 ⟨rfl,hb1⟩;have hbW:=(by first|exact (hH W.heap.size W).drew.trans (hb1.mono (gt _))|exact (by assumption:Below W.heap.size W _).trans (hb1.mono (TQ (by assumption))):Below W.heap.size W w1)))
 all_goals (
  have HR1:Hid (Rs w0 (w1.iter x 0) g s (a+0) a f l/\(w1.iter x 0).heap[w1.heap.size]?=some (.stringIter x 0)):=⟨(HR.out _ hbW).below (dQ w1 x 0),World.iter_heap w1 x 0⟩
  have HG:Hid (g≠w1.heap.size):=by
   obtain ⟨_,_,v,h3,_⟩:=HR.out _ hbW;have:=aq h3;show g≠_;omega
  have HW0:Hid (w0.heap.size<=w1.heap.size):=(HR.out _ hbW).bel.size;clear HR HK HS
  go_wp2_with fail
  go_loopw [] (fun wr=>∃pos:Nat,pos<=x.size/\Hid (Rs w0 wr g s (a+pos) a f l/\wr.heap[w1.heap.size]?=some (.stringIter x pos))) (fun wr=>x.size-wr.iterPos w1.heap.size)
  case atStart=>exact ⟨0,QK _,HR1⟩
  case round=>
   obtain ⟨pos,hp3,HI⟩:=hrel
   by_cases hp:pos<x.size
   ·have hnx:∀ty,(Instr.next (.pointer (some ⟨w1.heap.size,0,none⟩)) true ty).run Tryz.prog wr=_:=fun ty=>Lib.run_next_any_at wr w1.heap.size x pos ty HI.out.2 hp
    obtain ⟨d1,d2⟩:=HDc.out pos hp
    have HI2:Hid (Rs w0 (wr.iterAt w1.heap.size x (pos+1)) g s (a+pos) a f l/\(wr.iterAt w1.heap.size x (pos+1)).heap[w1.heap.size]?=some (.stringIter x (pos+1))):=by
     refine ⟨Rs.kp (S:=fun k=>k=w1.heap.size) HI.out.1 (Lib.below_iterAt (hH _ _) HW0.out x _) ⟨rfl,rfl,rfl,by rw [Lib.iterAt_size];exact gt _,fun k _ hk=>Lib.iterAt_other _ _ _ _ _ hk⟩ HG.out (fun k cs T z hk e=>?_),Lib.iterAt_heap _ _ _ _ _ HI.out.2⟩;rw [e,HI.out.2] at hk;cases hk
    have HM:Hid (wr.iterPos w1.heap.size=pos):=by
     show _=_
     unfold World.iterPos;rw [HI.out.2]
    rw [d1] at hnx;clear HI
    go_wp2_with (first|(go_at_call 98;refine (HTk.out _ pos hp HI2.out.1).mono ?_;rintro e w3 ⟨rfl,hr3,hk3⟩))
    refine ⟨⟨pos+1,hp,hr3,hk3.blk HI2.out.2 (fun e=>HG.out e.symm)⟩,?_⟩;rw [HM.out];have e:w3.iterPos w1.heap.size=pos+1:=by unfold World.iterPos;rw [hk3.blk HI2.out.2 (fun e=>HG.out e.symm)]
    rw [e];omega
   ·have hnx:∀ty,(Instr.next (.pointer (some ⟨w1.heap.size,0,none⟩)) true ty).run Tryz.prog wr=_:=fun ty=>Lib.run_next_end_at wr w1.heap.size x pos ty HI.out.2 hp
    have HI2:Hid (Rs w0 wr g s (a+x.size) a f l):=by
     have:=HI.out.1;rw [show pos=x.size by omega] at this;exact this
    clear HI
    go_wp2_with (first|(go_at_call 101;refine (HTl.out _ HI2.out).mono ?_;rintro e w3 ⟨rfl,hr3⟩))
    go_ret
    rw [HE.out];exact ⟨rfl,TP.ok HE.out hr3⟩)
theorem AN (hK:nX w0) (h:Rs w0 W g s a a f l) (hs:s.size<=2147483647) (ha:a<s.size) (hz:(sg s a).size=0) :
  Ra 59 #[.pointer (some ⟨g,0,none⟩)] W fun e w'=>e=.returned (.int .i64 100)/\Rs w0 w' g s a a f l:=by
 have hx:sg s a=⟨#[]⟩:=eX _ _ (by rw [hz];rfl) (fun j hj=>by omega)
 have HS:Hid (∀V,Rc W V->Ra 107 #[.string s,.int .i64 a] V fun e w'=>e=.returned (.string ⟨#[]⟩)/\Rc V w'):=fun V hV=>by
  rw [<-hx];exact yG s a V (hK.below (h.bel.trans (hV.mono h.bel.size))).2.2 ha
 have HR:Hid (∀V,Rc W V->Rs w0 V g s a a f l):=fun V hV=>h.below hV
 have HK:Hid (∀V,Rc W V->V.cell? ⟨g,0,none⟩=some (.string s)/\V.cell? ⟨g,1,none⟩=some (.int .i64 a)/\Rc W V):=fun V hV=>by
  obtain ⟨h1,h2,v,h3,h4⟩:=Rq.below h hV;exact ⟨(Rq.cells h3).1,(Rq.cells h3).2.1,hV⟩
 clear hx h hz
 go_enter Tryz.func59,Tryz.ntmps59
 go_wp2_with fail
 go_region_held3 (fun w'=>w'.cell? ⟨g,0,none⟩=some (.string s)/\w'.cell? ⟨g,1,none⟩=some (.int .i64 a)/\Below W.heap.size W w') (first|(exact HK.out _ (by assumption))|(exact HK.out _ (hH _ _).drew)|go_keep) (first|(go_at_call 107;refine (HS.out _ (by first|assumption|exact (hH _ _).drew)).mono ?_;rintro e w1 ⟨rfl,hb1⟩;have hbW:=(by first|exact (hH W.heap.size W).drew.trans (hb1.mono (gt _))|exact (by assumption:Below W.heap.size W _).trans (hb1.mono (TQ (by assumption))):Below W.heap.size W w1)))
 all_goals (
  go_wp2_with fail
  go_ret
  exact ⟨rfl,HR.out _ hbW⟩)
theorem Cp (s:ByteArray) (a:Nat):ak s a=0\/ak s a=1\/ak s a=3\/ak s a=4\/ak s a=5\/ak s a=6\/ak s a=7\/ak s a=8:=by
 unfold ak
 repeat' split
 all_goals simp
theorem bw {k:Nat}(h:ak s a=k):(k≠1->(gd s a && fC (dp s a))=false)/\(k≠1->k≠3->cJ (ay s a)=false)/\(k≠1->k≠3->k≠4->ay s a≠34)/\(k≠1->k≠3->k≠4->k≠5->ay s a≠39) /\
  (k≠1->k≠3->k≠4->k≠5->k≠7->¬(ay s a=47/\a+1<s.size/\ay s (a+1)=47))/\(k≠1->k≠3->k≠4->k≠5->k≠7->k≠8->ay s a≠123)/\(k≠1->k≠3->k≠4->k≠5->k≠7->k≠8->k≠6->(sg s a).size=0):=by
 unfold ak at h
 by_cases c1:(gd s a && fC (dp s a))=true
 ·grind
 ·rw [Eq c1] at h;have e1:(gd s a && fC (dp s a))=false:=by simpa using c1
  by_cases c2:cJ (ay s a)=true
  ·grind
  ·grind
theorem sh :pre s a ⟨#[47,47]⟩=decide (ay s a=47/\a+1<s.size/\ay s (a+1)=47):=by
 unfold pre;rw [Sz];have hz:(⟨#[47,47]⟩:ByteArray).size=2:=rfl;rw [hz];constructor
 ·rintro ⟨h1,h2⟩;have e0:=aR s a (a+2) 0 (by omega);have e1:=aR s a (a+2) 1 (by omega);rw [h2] at e0 e1;exact ⟨by rw [show a=a+0 by omega,<-e0];rfl,by omega,by rw [<-e1];rfl⟩
 ·rintro ⟨h1,h2,h3⟩;refine ⟨by omega,eX _ _ (by rw [az s _ _ (by omega)];show a+2-a=2;omega) (fun j hj=>?_)⟩;rw [az s _ _ (by omega)] at hj;rw [aR s a _ j (by omega)]
  rcases (show j=0\/j=1 by omega) with rfl|rfl
  ·rw [R7,h1];rfl
  ·rw [h3];rfl
theorem PK (hk:ak s a=7) (d1:a<s.size):pre s a ⟨#[47,47]⟩=true:=by rw [sh];exact QW (Ng hk)
theorem PL (hk:ak s a=6) (d1:a<s.size):pre s a ⟨#[47,47]⟩=false:=by rw [sh];exact QX ((bw hk).2.2.2.2.1 (by decide) (by decide) (by decide) (by decide) (by decide))
theorem PM (hk:ak s a=0) (d1:a<s.size):pre s a ⟨#[47,47]⟩=false:=by rw [sh];exact QX ((bw hk).2.2.2.2.1 (by decide) (by decide) (by decide) (by decide) (by decide))
theorem PU (hk:ak s a=1):(gd s a && fC (dp s a))=true:=OR hk
theorem P9 (hk:ak s a=3):cJ (ay s a)=true:=OQ hk
theorem PT (hk:ak s a=3):(gd s a && fC (dp s a))=false:=(bw hk).1 (by decide)
theorem PR (hk:ak s a=4):(gd s a && fC (dp s a))=false:=(bw hk).1 (by decide)
theorem PQ (hk:ak s a=5):(gd s a && fC (dp s a))=false:=(bw hk).1 (by decide)
theorem PO (hk:ak s a=7):(gd s a && fC (dp s a))=false:=(bw hk).1 (by decide)
theorem PN (hk:ak s a=8):(gd s a && fC (dp s a))=false:=(bw hk).1 (by decide)
theorem PP (hk:ak s a=6):(gd s a && fC (dp s a))=false:=(bw hk).1 (by decide)
theorem PV (hk:ak s a=0):(gd s a && fC (dp s a))=false:=(bw hk).1 (by decide)
theorem P7 (hk:ak s a=4):cJ (ay s a)=false:=(bw hk).2.1 (by decide) (by decide)
theorem P0 (hk:ak s a=5):cJ (ay s a)=false:=(bw hk).2.1 (by decide) (by decide)
theorem PY (hk:ak s a=7):cJ (ay s a)=false:=(bw hk).2.1 (by decide) (by decide)
theorem PX (hk:ak s a=8):cJ (ay s a)=false:=(bw hk).2.1 (by decide) (by decide)
theorem PZ (hk:ak s a=6):cJ (ay s a)=false:=(bw hk).2.1 (by decide) (by decide)
theorem Qa (hk:ak s a=0):cJ (ay s a)=false:=(bw hk).2.1 (by decide) (by decide)
theorem PH (hk:ak s a=5):ay s a≠34:=(bw hk).2.2.1 (by decide) (by decide) (by decide)
theorem PF (hk:ak s a=7):ay s a≠34:=(bw hk).2.2.1 (by decide) (by decide) (by decide)
theorem PE (hk:ak s a=8):ay s a≠34:=(bw hk).2.2.1 (by decide) (by decide) (by decide)
theorem PG (hk:ak s a=6):ay s a≠34:=(bw hk).2.2.1 (by decide) (by decide) (by decide)
theorem PJ (hk:ak s a=0):ay s a≠34:=(bw hk).2.2.1 (by decide) (by decide) (by decide)
theorem Qc (hk:ak s a=7):ay s a≠39:=(bw hk).2.2.2.1 (by decide) (by decide) (by decide) (by decide)
theorem Qb (hk:ak s a=8):ay s a≠39:=(bw hk).2.2.2.1 (by decide) (by decide) (by decide) (by decide)
theorem Qd (hk:ak s a=6):ay s a≠39:=(bw hk).2.2.2.1 (by decide) (by decide) (by decide) (by decide)
theorem Qe (hk:ak s a=0):ay s a≠39:=(bw hk).2.2.2.1 (by decide) (by decide) (by decide) (by decide)
theorem Qf (hk:ak s a=7):ay s a≠123:=by rw [(Ng hk).1];decide
theorem Qg (hk:ak s a=6):ay s a≠123:=(bw hk).2.2.2.2.2.1 (by decide) (by decide) (by decide) (by decide) (by decide) (by decide)
theorem Qh (hk:ak s a=0):ay s a≠123:=(bw hk).2.2.2.2.2.1 (by decide) (by decide) (by decide) (by decide) (by decide) (by decide)
theorem PB (hk:ak s a=0):(sg s a).size=0:=(bw hk).2.2.2.2.2.2 (by decide) (by decide) (by decide) (by decide) (by decide) (by decide) (by decide)
structure JR (w0 W:World) (g:Nat) (s:ByteArray) (a b f:Nat) (l:List Tv):Prop where
 asz:a<=s.size
 ba:b<=a
 bda:bd s a
 bdb:bd s b
 rs:Rs w0 W g s a b f l
 fa:f<=a
 la:l.length<=a
 toks:l++(gS s a f).1.map (tv s)=(fu s).1.map (tv s)
 err:(gS s a f).2=(fu s).2
def RP (w0 w':World) (g:Nat) (s:ByteArray):Prop:=∃a' b' f',Rs w0 w' g s a' b' f' ((fu s).1.map (tv s))/\bd s a'/\bd s b'/\b'<=a'/\((fu s).2.1=102->a'=(fu s).2.2)/\((fu s).2.1≠0->(fu s).2.1≠102->b'=(fu s).2.2)
theorem JR.done (h:JR w0 W g s a b f l) (ha:s.size<=a):RP w0 W g s/\(fu s).2.1=0:=by
 have e:=eC s a f ha;have h1:=h.toks;have h2:=h.err;rw [e] at h1 h2;rw [UG,Rx] at h1;refine ⟨⟨a,b,f,by rw [<-h1];exact h.rs,h.bda,h.bdb,h.ba,?_,?_⟩,by rw [<-h2]⟩
 ·rw [<-h2];intro h;cases h
 ·rw [<-h2];intro h;exact absurd rfl h
theorem JR.feed (h:JR w0 W g s a b f l) (ha:a<s.size) (h10:ay s a=10) (hr:Rs w0 W' g s (a+fe s a) b (if bf s a=10 then f+1 else f) l):JR w0 W' g s (a+1) b (f+1) l:=by
 have e:=ci s a f ha;rw [IO h10] at e;have e1:bf s a=10:=(bI s a 10 (by decide) ha).2 h10;rw [IO e1,ce ha,(bq s a (by omega)).1] at hr;have h1:=h.ba;have h2:=h.fa;have h3:=h.la;exact ⟨ha,by omega,(jW s a ha (by omega)).2,h.bdb,hr,by omega,by omega,by rw [<-e];exact h.toks,by rw [<-e];exact h.err⟩
theorem JR.blank (h:JR w0 W g s a b f l) (ha:a<s.size) (h10:ay s a≠10) (hbl:cQ (ay s a)=true) (hr:Rs w0 W' g s (a+fe s a) b (if bf s a=10 then f+1 else f) l):JR w0 W' g s (a+1) b f l:=by
 have e:=ci s a f ha;rw [Eq h10,IO hbl] at e;have h8:=Nc hbl;have hn10:¬bf s a=10:=fun h=>h10 ((bI s a 10 (by decide) ha).1 h)
 rw [Eq hn10,ce ha,(bq s a h8).1] at hr;have h1:=h.ba;have h2:=h.fa;have h3:=h.la;exact ⟨ha,by omega,(jW s a ha h8).2,h.bdb,hr,by omega,by omega,by rw [<-e];exact h.toks,by rw [<-e];exact h.err⟩
theorem JR.tok (h:JR w0 W g s a b f l) (ha:a<s.size) (h10:ay s a≠10) (hbl:cQ (ay s a)=false) {k:Nat}(hk:ak s a=k) (h0:k≠0) (hE:(ap s a k).2=0) (hT:TP w0 W' g s k a f l) :
  JR w0 W' g s (ap s a k).1 a 0 (l++[tv s (cM s k a (ap s a k).1 f)])/\a<(ap s a k).1:=by
 have e:=ci s a f ha;have hp:=ej s a k (ap s a k).1 ha hk h0 (UJ rfl hE);have hbp:bd s (ap s a k).1:=MQ h.bda ha hk h0 rfl;unfold TP at hT;rw [IO hE] at hT;rw [Eq h10,Eq (by rw [hbl];decide),hk,Eq h0,Eq (by rw [hE];decide)] at e;have h3:=h.la;refine ⟨⟨hp.2,RO hp.1,hbp,h.bda,hT,QK _,by rw [Or];simp;omega,?_,?_⟩,hp.1⟩
 ·have:=h.toks;rw [e] at this;rw [<-this];simp
 ·have:=h.err;rw [e] at this;exact this
theorem JR.bad (h:JR w0 W g s a b f l) (ha:a<s.size) (h10:ay s a≠10) (hbl:cQ (ay s a)=false) {k:Nat}(hk:ak s a=k) (h0:k≠0) (hE:(ap s a k).2≠0) (hT:TP w0 W' g s k a f l) :
  RP w0 W' g s/\(fu s).2.1=(ap s a k).2:=by
 have e:=ci s a f ha;unfold TP at hT;rw [Eq hE] at hT;rw [Eq h10,Eq (by rw [hbl];decide),hk,Eq h0,IO hE] at e;have h1:=h.toks;have h2:=h.err;rw [e] at h1 h2;rw [UG,Rx] at h1;obtain ⟨a',t1,t2,t3,t4⟩:=hT;have e1:(fu s).2.1=(ap s a k).2:=by rw [<-h2]
 have e2:(fu s).2.2=(ap s a k).1:=by rw [<-h2]
 refine ⟨⟨a',a,f,by rw [<-h1];exact t3,t1,h.bda,t2,fun h=>?_,fun _ h2=>?_⟩,e1⟩
 ·rw [e2];exact t4 (by rw [<-e1];exact h)
 ·rw [e2]
  rcases JK (p:=(ap s a k).1) (e:=(ap s a k).2) ha rfl hE with ⟨h5,_⟩|⟨h5,_⟩
  ·exact h5.symm
  ·exact absurd (by rw [e1];exact h5) h2
theorem JR.none (h:JR w0 W g s a b f l) (ha:a<s.size) (h10:ay s a≠10) (hbl:cQ (ay s a)=false) (hk:ak s a=0) (hr:Rs w0 W' g s a a f l) :
  RP w0 W' g s/\(fu s).2.1=100:=by
 have e:=ci s a f ha;rw [Eq h10,Eq (by rw [hbl];decide),IO hk] at e;have h1:=h.toks;have h2:=h.err;rw [e] at h1 h2;rw [UG,Rx] at h1;refine ⟨⟨a,a,f,by rw [<-h1];exact hr,h.bda,h.bda,gt _,?_,?_⟩,by rw [<-h2]⟩
 ·rw [<-h2];intro h;cases h
 ·rw [<-h2];intro _ _;rfl
theorem qg {P:Program}{a:Act}{w:World}{Q:Exit->Act->World->Prop}{r rest:Code}(l:Nat) (J:Act->World->Prop) (μ:Act->World->Nat) (hf:findLabel (r.seq ((Code.label l).seq rest)) l=some (Code.skip.seq rest))
  (first:r.wp P (Exit.then (fun a w=>J a w) (fun _ _ _=>False)) a w)
  (pass:∀a w,J a w->rest.wp P (Exit.jump l (fun a' w'=>J a' w'/\μ a' w' < μ a w) Q) a w):(Code.scope (r.seq ((Code.label l).seq rest))).wp P Q a w:=by
 refine Tl l J μ hf ?_ (fun a w h=>wp_seq (wp_skip (pass a w h)));refine wp_seq (wp_mono first ?_);intro e a' w' h;cases e with
 |normal=>
  refine wp_seq (wp_label ?_);refine wp_mono (pass a' w' h) ?_;intro e2 a2 w2 h2;cases e2 with
  |goto l'=>exact ⟨h2.1,h2.2.1⟩
  |normal=>exact h2
  |exit id=>exact h2
  |ret=>exact h2
  |panic ch=>exact h2
  |outgrown=>exact h2
 |goto l'=>exact h.elim
 |exit id=>exact h.elim
 |ret=>exact h.elim
 |panic ch=>exact h.elim
 |outgrown=>exact h.elim
set_option maxRecDepth 100000 in
theorem oM (hK:nX w0) (h:Rs w0 W g s 0 0 0 []) (hs:s.size<=2147483647) :
  Ra 22 #[.pointer (some ⟨g,0,none⟩)] W fun e w'=>e=.returned (.int .i64 ((fu s).2.1:Nat))/\RP w0 w' g s:=by
 have HJ0:Hid (JR w0 W g s 0 0 0 []):=⟨QK _,gt _,tI s,tI s,h,gt _,gt _,rfl,rfl⟩
 have HC:Hid (∀V a b,∀{f:Nat} {l:List Tv},Rs w0 V g s a b f l->V.cell? ⟨g,0,none⟩=some (.string s)/\V.cell? ⟨g,1,none⟩=some (.int .i64 a)/\V.cell? ⟨g,2,none⟩=some (.int .i32 (bf s a))):=fun V a b f l hr=>by
  obtain ⟨h1',h2',v,h3,h4⟩:=hr;exact ⟨(Rq.cells h3).1,(Rq.cells h3).2.1,(Rq.cells h3).2.2.1⟩
 clear h
 go_enter Tryz.func22,Tryz.ntmps22
 go_wp2_with fail
 refine qg 0 (fun a' w'=>∃(a b f:Nat) (l:List Tv) (u1 u2 u3 u4 u5 u6 u7 u8 u9 u10 u11 u12 u13 u14 u15 u16 u17 u18 u19 u20 u21 u22 u23 u24 u25 u26 u27 u28 u29 u30 u31 u32 u33 u34 u35 u36 u37 u38 u39 u40 u41 u42 u43 u44 u45 u46 u47 u48 u49 u50 u51 u52 u53 u54 u55 u56 u57 u58 u59 u60 u61 u62 u63 u64 u65 u66 u67 u68 u69 u70 u71 u72 u73 u74 u75 u76 u77 u78 u79 u80 u81 u82:Value),Hid (JR w0 w' g s a b f l)/\a'={ tmps:=#[.pointer (some ⟨g,0,none⟩),u1,u2,u3,u4,u5,u6,u7,u8,u9,u10,u11,u12,u13,u14,u15,u16,u17,u18,u19,u20,u21,u22,u23,u24,u25,u26,u27,u28,u29,u30,u31,u32,u33,u34,u35,u36,u37,u38,u39,u40,u41,u42,u43,u44,u45,u46,u47,u48,u49,u50,u51,u52,u53,u54,u55,u56,u57,u58,u59,u60,u61,u62,u63,u64,u65,u66,u67,u68,u69,u70,u71,u72,u73,u74,u75,u76,u77,u78,u79,u80,u81,u82],defers:=[] }) (fun _ w'=>s.size-fW w' g 1) rfl ?_ ?_
 ·go_wp2_with fail
  exact ⟨0,0,0,[],_,_,_,_,_,_,_,_,_,_,_,_,_,_,_,_,_,_,_,_,_,_,_,_,_,_,_,_,_,_,_,_,_,_,_,_,_,_,_,_,_,_,_,_,_,_,_,_,_,_,_,_,_,_,_,_,_,_,_,_,_,_,_,_,_,_,_,_,_,_,_,_,_,_,_,_,_,_,_,_,_,_,HJ0,rfl⟩
 ·rintro a' w' ⟨a,b,f,l,u1,u2,u3,u4,u5,u6,u7,u8,u9,u10,u11,u12,u13,u14,u15,u16,u17,u18,u19,u20,u21,u22,u23,u24,u25,u26,u27,u28,u29,u30,u31,u32,u33,u34,u35,u36,u37,u38,u39,u40,u41,u42,u43,u44,u45,u46,u47,u48,u49,u50,u51,u52,u53,u54,u55,u56,u57,u58,u59,u60,u61,u62,u63,u64,u65,u66,u67,u68,u69,u70,u71,u72,u73,u74,u75,u76,u77,u78,u79,u80,u81,u82,HJ,rfl⟩;have HX:Hid (fW w' g 1=a):=HJ.out.rs.at;have HR:Hid (Rs w0 w' g s a b f l):=HJ.out.rs;have z0:=(HC.out _ _ _ HR.out).2.2;have hla:=HJ.out.la;have hfa:=HJ.out.fa;have hasz:=HJ.out.asz
  by_cases hd:s.size<=a
  ·rw [(dm s a).2 hd] at z0;have HE:=HJ.out.done hd;have HE2:Hid (RP w0 w' g s/\(fu s).2.1=0):=HE;clear HE hd
   go_wp2_with fail
   simp only [Exit.jump]
   go_ret
   rw [HE2.out.2];exact ⟨rfl,HE2.out.1⟩
  ·have d1:a<s.size:=by omega
   have e0:(bf s a == -1)=false:=by rw [Q7];exact fun h=>hd ((dm s a).1 h)
   have rg:=yI s a;have rg0:0<=bf s a:=by rw [gC d1];omega
   have hps:=uQ HR.out (by omega) hasz (by omega);have HPs:Hid (∀V,Rs w0 V g s a b f l->Ra 51 #[.pointer (some ⟨g,0,none⟩)] V fun e w'=>e=.returned (.tuple #[])/\Rs w0 w' g s (a+fe s a) b (if bf s a=10 then f+1 else f) l):=fun V hV=>uQ hV (by omega) hasz (by omega)
   clear hps
   by_cases h10:ay s a=10
   ·have q10:bf s a=10:=(bI s a 10 (by decide) d1).2 h10;have HJ2:Hid (∀V,Rs w0 V g s (a+fe s a) b (if bf s a=10 then f+1 else f) l->JR w0 V g s (a+1) b (f+1) l):=fun V hV=>HJ.out.feed d1 h10 hV
    rw [q10] at z0;clear h10 hd e0
    go_wp2_with (first|(go_at_call 51;refine (HPs.out _ HR.out).mono ?_;rintro e w1 ⟨rfl,hr1⟩;have hj:=HJ2.out _ hr1))
    go_step3
    refine ⟨rfl,⟨a+1,b,f+1,l,_,_,_,_,_,_,_,_,_,_,_,_,_,_,_,_,_,_,_,_,_,_,_,_,_,_,_,_,_,_,_,_,_,_,_,_,_,_,_,_,_,_,_,_,_,_,_,_,_,_,_,_,_,_,_,_,_,_,_,_,_,_,_,_,_,_,_,_,_,_,_,_,_,_,_,_,_,_,_,_,_,_,hj,rfl⟩,?_⟩;rw [HX.out,hj.rs.at];omega
   ·have q10:(bf s a == 10)=false:=by rw [Q7];exact fun h=>h10 ((bI s a 10 (by decide) d1).1 h)
    have hbp:=OL s a d1
    by_cases hbl:cQ (ay s a)=true
    ·have HBl:Hid (∀V,Ra 50 #[.int .i32 (bf s a)] V fun e w'=>e=.returned (.bool true)/\Rc V w'):=fun V=>by
      rw [<-hbl,<-hbp];exact mu _ _ rg0
     have HJ2:Hid (∀V,Rs w0 V g s (a+fe s a) b (if bf s a=10 then f+1 else f) l->JR w0 V g s (a+1) b f l):=fun V hV=>HJ.out.blank d1 h10 hbl hV
     clear h10 hd hbl hbp
     go_wp2_with (first|(go_at_call 50;refine (HBl.out _).mono ?_;rintro e w1 ⟨rfl,hb1⟩;have hr1:=Rq.below HR.out hb1;have z1:=(HC.out _ _ _ hr1).2.2)|(go_at_call 51;refine (HPs.out _ hr1).mono ?_;rintro e w2 ⟨rfl,hr2⟩;have hj:=HJ2.out _ hr2))
     go_step3
     refine ⟨rfl,⟨a+1,b,f,l,_,_,_,_,_,_,_,_,_,_,_,_,_,_,_,_,_,_,_,_,_,_,_,_,_,_,_,_,_,_,_,_,_,_,_,_,_,_,_,_,_,_,_,_,_,_,_,_,_,_,_,_,_,_,_,_,_,_,_,_,_,_,_,_,_,_,_,_,_,_,_,_,_,_,_,_,_,_,_,_,_,_,hj,rfl⟩,?_⟩;rw [HX.out,hj.rs.at];omega
    ·have hbl1:cQ (ay s a)=false:=by simpa using hbl
     have HBl:Hid (∀V,Ra 50 #[.int .i32 (bf s a)] V fun e w'=>e=.returned (.bool false)/\Rc V w'):=fun V=>by
      rw [<-hbl1,<-hbp];exact mu _ _ rg0
     have hb0:=HJ.out.bda;have HSt:Hid (∀V,Rs w0 V g s a b f l->Ra 52 #[.pointer (some ⟨g,0,none⟩)] V fun e w'=>e=.returned (.tuple #[])/\Rs w0 w' g s a a f l):=fun V hV=>Ho hV (by omega) HJ.out.ba HJ.out.bdb hb0
     have hwr:IntKind.i64.wrap (bf s a)=bf s a:=by rw [RA];omega
     have hl9:l.length<=2147483647:=by omega
     have HN:Hid (ay s a≠10/\cQ (ay s a)=false):=⟨h10,hbl1⟩;have hs':s.size<=2147483647:=by omega
     have qs:(a:Int)<=s.size:=by omega
     have hcases:=Cp s a;clear h10 hd hbl hbl1 hbp HPs
     rcases hcases with hk|hk|hk|hk|hk|hk|hk|hk
     ·have HLt:Hid (∀V,Rs w0 V g s a a f l->Ra 53 #[.int .i64 (bf s a)] V fun e w'=>e=.returned (.bool false)/\w'=V):=fun V hV=>by
       have h9:=df (bf s a) V (hK.below hV.bel).1;rw [show fC (bf s a)=false by rw [dZ s a d1];exact PV hk] at h9;exact h9
      have HDg:Hid (∀V,Ra 54 #[.int .i32 (bf s a)] V fun e w'=>e=.returned (.bool false)/\w'=V):=fun V=>by
       have h9:=bP (bf s a) V;rw [dK,QW d1,R4,show cJ (ay s a)=false from Qa hk] at h9;exact h9
      have q34:(bf s a == 34)=false:=by rw [Q7];exact fun h=>PJ hk ((bI s a 34 (by decide) d1).1 h)
      have q39:(bf s a == 39)=false:=by rw [Q7];exact fun h=>Qe hk ((bI s a 39 (by decide) d1).1 h)
      have q123:(bf s a == 123)=false:=by rw [Q7];exact fun h=>Qh hk ((bI s a 123 (by decide) d1).1 h)
      have HPr:Hid (∀V,Ra 57 #[.string (s.extract a s.size),.string ⟨#[47,47]⟩] V fun e w'=>e=.returned (.bool false)/\w'=V):=fun V=>by
       have h9:=sI (s.extract a s.size) ⟨#[47,47]⟩ V;rw [kw s _ a (by omega),show pre s a ⟨#[47,47]⟩=false from PM hk d1] at h9;exact h9
      have HTok:Hid (∀V,Rs w0 V g s a a f l->Ra 59 #[.pointer (some ⟨g,0,none⟩)] V fun e w'=>e=.returned (.int .i64 100)/\Rs w0 w' g s a a f l):=fun V hV=>AN hK hV hs' d1 (PB hk)
      have HE2:Hid (∀V,Rs w0 V g s a a f l->RP w0 V g s/\(fu s).2.1=100):=fun V hV=>HJ.out.none d1 HN.out.1 HN.out.2 hk hV
      clear hk hb0
      go_wp2_with (first|(go_at_call 50;refine (HBl.out _).mono ?_;rintro e w1 ⟨rfl,hb1⟩;have hr1:=Rq.below HR.out hb1;have z1:=(HC.out _ _ _ hr1).2.2)|(go_at_call 52;refine (HSt.out _ hr1).mono ?_;rintro e w2 ⟨rfl,hr2⟩;obtain ⟨y0,y1,y2⟩:=HC.out _ _ _ hr2)|(go_at_call 53;refine (HLt.out _ hr2).mono ?_;rintro e w3 ⟨rfl,hw⟩;replace hw:=hw.symm;subst hw)|(go_at_call 54;refine (HDg.out _).mono ?_;rintro e w4 ⟨rfl,hw⟩;replace hw:=hw.symm;subst hw))
      go_quiet ((go_at_call 57;exact Calls.quiet_of_same (HPr.out _)))
      go_wp2_with (first|(go_at_call 59;refine (HTok.out _ (Rq.below hr2 (dR _ _))).mono ?_;rintro e w5 ⟨rfl,hr5⟩))
      simp only [Exit.jump]
      go_ret
      rw [(HE2.out _ hr5).2];exact ⟨rfl,(HE2.out _ hr5).1⟩
     have HLt:Hid (∀V,Rs w0 V g s a a f l->Ra 53 #[.int .i64 (bf s a)] V fun e w'=>e=.returned (.bool true)/\w'=V):=fun V hV=>by
      have h9:=df (bf s a) V (hK.below hV.bel).1;rw [show fC (bf s a)=true by rw [dZ s a d1];exact PU hk] at h9;exact h9
     obtain ⟨E,hE⟩:∃E,(ap s a 1).2=E:=⟨_,rfl⟩
     have HTok:Hid (∀V,Rs w0 V g s a a f l->Ra 55 #[.pointer (some ⟨g,0,none⟩)] V fun e w'=>e=.returned (.int .i64 (E:Nat))/\TP w0 w' g s 1 a f l):=fun V hV=>by
      rw [<-hE];exact Es hK hV hs' d1 hb0 hk hl9
     have HK0:Hid (ak s a=1/\(ap s a 1).2=E):=⟨hk,hE⟩;clear hk hb0 hE
     rotate_left
     have HLt:Hid (∀V,Rs w0 V g s a a f l->Ra 53 #[.int .i64 (bf s a)] V fun e w'=>e=.returned (.bool false)/\w'=V):=fun V hV=>by
      have h9:=df (bf s a) V (hK.below hV.bel).1;rw [show fC (bf s a)=false by rw [dZ s a d1];exact PT hk] at h9;exact h9
     have HDg:Hid (∀V,Ra 54 #[.int .i32 (bf s a)] V fun e w'=>e=.returned (.bool true)/\w'=V):=fun V=>by
      have h9:=bP (bf s a) V;rw [dK,QW d1,R4,show cJ (ay s a)=true from P9 hk] at h9;exact h9
     obtain ⟨E,hE⟩:∃E,(ap s a 3).2=E:=⟨_,rfl⟩
     have HTok:Hid (∀V,Rs w0 V g s a a f l->Ra 55 #[.pointer (some ⟨g,0,none⟩)] V fun e w'=>e=.returned (.int .i64 (E:Nat))/\TP w0 w' g s 3 a f l):=fun V hV=>by
      rw [<-hE];exact IR hV hs' d1 hb0 hk hl9
     have HK0:Hid (ak s a=3/\(ap s a 3).2=E):=⟨hk,hE⟩;clear hk hb0 hE
     rotate_left
     have HLt:Hid (∀V,Rs w0 V g s a a f l->Ra 53 #[.int .i64 (bf s a)] V fun e w'=>e=.returned (.bool false)/\w'=V):=fun V hV=>by
      have h9:=df (bf s a) V (hK.below hV.bel).1;rw [show fC (bf s a)=false by rw [dZ s a d1];exact PR hk] at h9;exact h9
     have HDg:Hid (∀V,Ra 54 #[.int .i32 (bf s a)] V fun e w'=>e=.returned (.bool false)/\w'=V):=fun V=>by
      have h9:=bP (bf s a) V;rw [dK,QW d1,R4,show cJ (ay s a)=false from P7 hk] at h9;exact h9
     have q34:(bf s a == 34)=true:=by rw [RM];exact (bI s a 34 (by decide) d1).2 (OP hk)
     obtain ⟨E,hE⟩:∃E,(ap s a 4).2=E:=⟨_,rfl⟩
     have HTok:Hid (∀V,Rs w0 V g s a a f l->Ra 56 #[.pointer (some ⟨g,0,none⟩)] V fun e w'=>e=.returned (.int .i64 (E:Nat))/\TP w0 w' g s 4 a f l):=fun V hV=>by
      rw [<-hE];exact CV hV hs' d1 hb0 hk hl9
     have HK0:Hid (ak s a=4/\(ap s a 4).2=E):=⟨hk,hE⟩;clear hk hb0 hE
     rotate_left
     have HLt:Hid (∀V,Rs w0 V g s a a f l->Ra 53 #[.int .i64 (bf s a)] V fun e w'=>e=.returned (.bool false)/\w'=V):=fun V hV=>by
      have h9:=df (bf s a) V (hK.below hV.bel).1;rw [show fC (bf s a)=false by rw [dZ s a d1];exact PQ hk] at h9;exact h9
     have HDg:Hid (∀V,Ra 54 #[.int .i32 (bf s a)] V fun e w'=>e=.returned (.bool false)/\w'=V):=fun V=>by
      have h9:=bP (bf s a) V;rw [dK,QW d1,R4,show cJ (ay s a)=false from P0 hk] at h9;exact h9
     have q34:(bf s a == 34)=false:=by rw [Q7];exact fun h=>PH hk ((bI s a 34 (by decide) d1).1 h)
     have q39:(bf s a == 39)=true:=by rw [RM];exact (bI s a 39 (by decide) d1).2 (OO hk)
     obtain ⟨E,hE⟩:∃E,(ap s a 5).2=E:=⟨_,rfl⟩
     have HTok:Hid (∀V,Rs w0 V g s a a f l->Ra 56 #[.pointer (some ⟨g,0,none⟩)] V fun e w'=>e=.returned (.int .i64 (E:Nat))/\TP w0 w' g s 5 a f l):=fun V hV=>by
      rw [<-hE];exact F2 hV hs' d1 hb0 hk hl9
     have HK0:Hid (ak s a=5/\(ap s a 5).2=E):=⟨hk,hE⟩;clear hk hb0 hE
     rotate_left
     have HLt:Hid (∀V,Rs w0 V g s a a f l->Ra 53 #[.int .i64 (bf s a)] V fun e w'=>e=.returned (.bool false)/\w'=V):=fun V hV=>by
      have h9:=df (bf s a) V (hK.below hV.bel).1;rw [show fC (bf s a)=false by rw [dZ s a d1];exact PP hk] at h9;exact h9
     have HDg:Hid (∀V,Ra 54 #[.int .i32 (bf s a)] V fun e w'=>e=.returned (.bool false)/\w'=V):=fun V=>by
      have h9:=bP (bf s a) V;rw [dK,QW d1,R4,show cJ (ay s a)=false from PZ hk] at h9;exact h9
     have q34:(bf s a == 34)=false:=by rw [Q7];exact fun h=>PG hk ((bI s a 34 (by decide) d1).1 h)
     have q39:(bf s a == 39)=false:=by rw [Q7];exact fun h=>Qd hk ((bI s a 39 (by decide) d1).1 h)
     have q123:(bf s a == 123)=false:=by rw [Q7];exact fun h=>Qg hk ((bI s a 123 (by decide) d1).1 h)
     have HPr:Hid (∀V,Ra 57 #[.string (s.extract a s.size),.string ⟨#[47,47]⟩] V fun e w'=>e=.returned (.bool false)/\w'=V):=fun V=>by
      have h9:=sI (s.extract a s.size) ⟨#[47,47]⟩ V;rw [kw s _ a (by omega),show pre s a ⟨#[47,47]⟩=false from PL hk d1] at h9;exact h9
     obtain ⟨E,hE⟩:∃E,(ap s a 6).2=E:=⟨_,rfl⟩
     have HTok:Hid (∀V,Rs w0 V g s a a f l->Ra 59 #[.pointer (some ⟨g,0,none⟩)] V fun e w'=>e=.returned (.int .i64 (E:Nat))/\TP w0 w' g s 6 a f l):=fun V hV=>by
      rw [<-hE];exact Dp hK hV hs' d1 hb0 hk hl9
     have HK0:Hid (ak s a=6/\(ap s a 6).2=E):=⟨hk,hE⟩;clear hk hb0 hE
     rotate_left
     have HLt:Hid (∀V,Rs w0 V g s a a f l->Ra 53 #[.int .i64 (bf s a)] V fun e w'=>e=.returned (.bool false)/\w'=V):=fun V hV=>by
      have h9:=df (bf s a) V (hK.below hV.bel).1;rw [show fC (bf s a)=false by rw [dZ s a d1];exact PO hk] at h9;exact h9
     have HDg:Hid (∀V,Ra 54 #[.int .i32 (bf s a)] V fun e w'=>e=.returned (.bool false)/\w'=V):=fun V=>by
      have h9:=bP (bf s a) V;rw [dK,QW d1,R4,show cJ (ay s a)=false from PY hk] at h9;exact h9
     have q34:(bf s a == 34)=false:=by rw [Q7];exact fun h=>PF hk ((bI s a 34 (by decide) d1).1 h)
     have q39:(bf s a == 39)=false:=by rw [Q7];exact fun h=>Qc hk ((bI s a 39 (by decide) d1).1 h)
     have q123:(bf s a == 123)=false:=by rw [Q7];exact fun h=>Qf hk ((bI s a 123 (by decide) d1).1 h)
     have HPr:Hid (∀V,Ra 57 #[.string (s.extract a s.size),.string ⟨#[47,47]⟩] V fun e w'=>e=.returned (.bool true)/\w'=V):=fun V=>by
      have h9:=sI (s.extract a s.size) ⟨#[47,47]⟩ V;rw [kw s _ a (by omega),show pre s a ⟨#[47,47]⟩=true from PK hk d1] at h9;exact h9
     obtain ⟨E,hE⟩:∃E,(ap s a 7).2=E:=⟨_,rfl⟩
     have HTok:Hid (∀V,Rs w0 V g s a a f l->Ra 58 #[.pointer (some ⟨g,0,none⟩)] V fun e w'=>e=.returned (.int .i64 (E:Nat))/\TP w0 w' g s 7 a f l):=fun V hV=>by
      rw [<-hE];exact Ez hV hs' d1 hb0 hk hl9
     have HK0:Hid (ak s a=7/\(ap s a 7).2=E):=⟨hk,hE⟩;clear hk hb0 hE
     rotate_left
     have HLt:Hid (∀V,Rs w0 V g s a a f l->Ra 53 #[.int .i64 (bf s a)] V fun e w'=>e=.returned (.bool false)/\w'=V):=fun V hV=>by
      have h9:=df (bf s a) V (hK.below hV.bel).1;rw [show fC (bf s a)=false by rw [dZ s a d1];exact PN hk] at h9;exact h9
     have HDg:Hid (∀V,Ra 54 #[.int .i32 (bf s a)] V fun e w'=>e=.returned (.bool false)/\w'=V):=fun V=>by
      have h9:=bP (bf s a) V;rw [dK,QW d1,R4,show cJ (ay s a)=false from PX hk] at h9;exact h9
     have q34:(bf s a == 34)=false:=by rw [Q7];exact fun h=>PE hk ((bI s a 34 (by decide) d1).1 h)
     have q39:(bf s a == 39)=false:=by rw [Q7];exact fun h=>Qb hk ((bI s a 39 (by decide) d1).1 h)
     have q123:(bf s a == 123)=true:=by rw [RM];exact (bI s a 123 (by decide) d1).2 (ON hk)
     obtain ⟨E,hE⟩:∃E,(ap s a 8).2=E:=⟨_,rfl⟩
     have HTok:Hid (∀V,Rs w0 V g s a a f l->Ra 58 #[.pointer (some ⟨g,0,none⟩)] V fun e w'=>e=.returned (.int .i64 (E:Nat))/\TP w0 w' g s 8 a f l):=fun V hV=>by
      rw [<-hE];exact Cn hV hs' d1 hb0 hk hl9
     have HK0:Hid (ak s a=8/\(ap s a 8).2=E):=⟨hk,hE⟩;clear hk hb0 hE
     rotate_left
     all_goals (
      by_cases he:E=0
      case' pos=>subst he
      case' neg=>
       have qe:((E:Int) == 0)=false:=by simp;omega
       have HEE:Hid (E≠0):=he;clear he
      all_goals (
       go_wp2_with (first|(go_at_call 50;refine (HBl.out _).mono ?_;rintro e w1 ⟨rfl,hb1⟩;have hr1:=Rq.below HR.out hb1;have z1:=(HC.out _ _ _ hr1).2.2)|(go_at_call 52;refine (HSt.out _ hr1).mono ?_;rintro e w2 ⟨rfl,hr2⟩;obtain ⟨y0,y1,y2⟩:=HC.out _ _ _ hr2)|(go_at_call 53;refine (HLt.out _ hr2).mono ?_;rintro e w3 ⟨rfl,hw⟩;replace hw:=hw.symm;subst hw)|(go_at_call 55;refine (HTok.out _ hr2).mono ?_;rintro e w5 ⟨rfl,hr5⟩)|(go_at_call 54;refine (HDg.out _).mono ?_;rintro e w4 ⟨rfl,hw⟩;replace hw:=hw.symm;subst hw)|(go_at_call 56;refine (HTok.out _ hr2).mono ?_;rintro e w5 ⟨rfl,hr5⟩))
       try (go_quiet ((first|(go_at_call 57;exact Calls.quiet_of_same (HPr.out _))|fail));go_wp2_with (first|(go_at_call 59;refine (HTok.out _ (Rq.below hr2 (dR _ _))).mono ?_;rintro e w5 ⟨rfl,hr5⟩)|(go_at_call 58;refine (HTok.out _ (Rq.below hr2 (dR _ _))).mono ?_;rintro e w5 ⟨rfl,hr5⟩)))
       first
        | (obtain ⟨hj,hlt⟩:=HJ.out.tok d1 HN.out.1 HN.out.2 HK0.out.1 (by decide) HK0.out.2 hr5;go_step3;refine ⟨rfl,⟨_,a,0,_,_,_,_,_,_,_,_,_,_,_,_,_,_,_,_,_,_,_,_,_,_,_,_,_,_,_,_,_,_,_,_,_,_,_,_,_,_,_,_,_,_,_,_,_,_,_,_,_,_,_,_,_,_,_,_,_,_,_,_,_,_,_,_,_,_,_,_,_,_,_,_,_,_,_,_,_,_,_,_,_,_,_,hj,rfl⟩,?_⟩;rw [HX.out,hj.rs.at];have:=hj.asz;omega)
        | (obtain ⟨hj,he2⟩:=HJ.out.bad d1 HN.out.1 HN.out.2 HK0.out.1 (by decide) (by rw [HK0.out.2];exact HEE.out) hr5;simp only [Exit.jump];go_ret;rw [he2,HK0.out.2];exact ⟨rfl,hj⟩)))
end Go.Proofs.YtjiepkenkcgkhaaGreatDoor.Lx
