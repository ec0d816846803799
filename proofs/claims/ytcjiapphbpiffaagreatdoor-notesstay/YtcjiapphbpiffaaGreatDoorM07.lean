import Derived.Lib.OthersKept
import Derived.Test.YtcjiapphbpiffaaGreatDoorM06
set_option linter.unusedVariables false
set_option linter.unusedSimpArgs false
set_option maxHeartbeats 8000000
namespace Go.Proofs.YtcjiapphbpiffaaGreatDoor.Lx
open Go.RowKit
variable {s:ByteArray}{a g f b:Nat}{w0 W W':World}{l:List Tv}
theorem KE {p n:Int}(h:Rq w0 W g s a p n b f l) (hs:s.size<=2147483647) (ha:a<=s.size) :
  Ta 29 #[.pointer (some ⟨g,0,none⟩)] W fun e w'=>e=.returned (.tuple #[])/\Rs w0 w' g s a b f l/\Kp (fun k=>k=g) W w':=by
 obtain ⟨S,I,v,H,h4⟩:=h;obtain ⟨c0,c1,c2,c3,c4,c5,c6,c7,c8⟩:=Rq.cells H
 by_cases Q:a<s.size
 ·have hd:=xa s a;obtain ⟨aa,ab,ac⟩:=aW s a Q
  have HN:Hid (∀w,Ta 55 #[.string s,.int .i64 a] w fun e w'=>e=.returned (.tuple #[.int .i64 (dp s a),.int .i64 (dw s a),.bool (gd s a)])/\Tb w w'):=fun w=>by
   have:=AG s a w (by unfold maxLen;omega) (by omega) (by omega);rw [Vo] at this;exact this
  have HR:Hid (∀w',Tb W w'->Tb w0 w'/\RB w' g s a p n b f v/\Rt w0.heap.size w' v l):=fun w' M=>⟨S.trans (M.mono S.size),ag H M,h4.below M⟩
  have Y:Hid (∀V,Tb W V->V.cell? ⟨g,0,none⟩=some (.string s)/\V.cell? ⟨g,1,none⟩=some (.int .i64 a)/\Tb W V):=fun V J=>⟨af (ag H J) rfl,af (ag H J) rfl,J⟩
  have e1:=gO Q;have e2:=cr Q;have U:Hid (bk s a=dp s a/\fw s a=dw s a):=⟨e1,e2⟩
  generalize dp s a=x at *
  generalize dw s a=y at *
  generalize gd s a=z at *
  clear e1 e2 S H h4 c0 c1 c2 c3 c4 c5 c6 c7 c8
  go_enter Xj,W6
  go_wp2_with fail
  go_region_held3 (fun w'=>w'.cell? ⟨g,0,none⟩=some (.string s)/\w'.cell? ⟨g,1,none⟩=some (.int .i64 a)/\Below W.heap.size W w') (first|(exact Y.out _ (by assumption))|(exact Y.out _ (hH _ _).drew)|go_keep) (first|(go_at_call 55;refine (HN.out _).mono ?_;rintro e O ⟨rfl,F⟩;have G:=(by first|exact (hH W.heap.size W).drew.trans (F.mono (gt _))|exact (by assumption:Below W.heap.size W _).trans (F.mono (Vz (by assumption))):Below W.heap.size W O)))
  all_goals (
   obtain ⟨Z,C,k4⟩:=HR.out _ G;have z2:=C.frozen 2;have z3:=C.frozen 3;obtain ⟨_,_,c2,c3,_⟩:=Rq.cells C;obtain ⟨m1,m3,m4⟩:=Rq.set Z I C k4 2 (.int .i32 x) (p':=x) rfl rfl;obtain ⟨n1,n3,n4⟩:=Rq.set m1 I m3 m4 3 (.int .i64 y) (n':=y) rfl rfl;have HF:Hid (Rs w0 ((O.setCell ⟨g,2,none⟩ (.int .i32 x)).setCell ⟨g,3,none⟩ (.int .i64 y)) g s a b f l/\Kp (fun k=>k=g) W ((O.setCell ⟨g,2,none⟩ (.int .i32 x)).setCell ⟨g,3,none⟩ (.int .i64 y))):=⟨⟨n1,I,v,by rw [U.out.1,U.out.2];exact n3,n4⟩,((Kp.of_below G).step (Kp.set _ g 2 _) (fun _ _ h=>h)).step (Kp.set _ g 3 _) (fun _ _ h=>h)⟩;clear Z C k4 m1 m3 m4 n1 n3 n4
   go_wp2_with fail
   go_end0
   exact ⟨rfl,HF.out⟩)
 ·have HN:Hid (∀w,Ta 55 #[.string s,.int .i64 a] w fun e w'=>e=.returned (.tuple #[.int .i64 0,.int .i64 0,.bool false])/\Tb w w'):=fun w=>wg s a w (by unfold maxLen;omega) (.inr (by omega))
  have HR:Hid (∀w',Tb W w'->Tb w0 w'/\RB w' g s a p n b f v/\Rt w0.heap.size w' v l):=fun w' M=>⟨S.trans (M.mono S.size),ag H M,h4.below M⟩
  have Y:Hid (∀V,Tb W V->V.cell? ⟨g,0,none⟩=some (.string s)/\V.cell? ⟨g,1,none⟩=some (.int .i64 a)/\Tb W V):=fun V J=>⟨af (ag H J) rfl,af (ag H J) rfl,J⟩
  have U:Hid (bk s a=-1/\fw s a=0):=⟨kH (by omega),gE (by omega)⟩;clear S H h4 c0 c1 c2 c3 c4 c5 c6 c7 c8
  go_enter Xj,W6
  go_wp2_with fail
  go_region_held3 (fun w'=>w'.cell? ⟨g,0,none⟩=some (.string s)/\w'.cell? ⟨g,1,none⟩=some (.int .i64 a)/\Below W.heap.size W w') (first|(exact Y.out _ (by assumption))|(exact Y.out _ (hH _ _).drew)|go_keep) (first|(go_at_call 55;refine (HN.out _).mono ?_;rintro e O ⟨rfl,F⟩;have G:=(by first|exact (hH W.heap.size W).drew.trans (F.mono (gt _))|exact (by assumption:Below W.heap.size W _).trans (F.mono (Vz (by assumption))):Below W.heap.size W O)))
  all_goals (
   obtain ⟨Z,C,k4⟩:=HR.out _ G;have z2:=C.frozen 2;have z3:=C.frozen 3;obtain ⟨_,_,c2,c3,_⟩:=Rq.cells C;obtain ⟨m1,m3,m4⟩:=Rq.set Z I C k4 2 (.int .i32 0) (p':=0) rfl rfl;obtain ⟨n1,n3,n4⟩:=Rq.set m1 I m3 m4 3 (.int .i64 0) (n':=0) rfl rfl;obtain ⟨o1,o3,o4⟩:=Rq.set n1 I n3 n4 2 (.int .i32 (-1)) (p':=-1) rfl rfl;have HF:Hid (Rs w0 (((O.setCell ⟨g,2,none⟩ (.int .i32 0)).setCell ⟨g,3,none⟩ (.int .i64 0)).setCell ⟨g,2,none⟩ (.int .i32 (-1))) g s a b f l/\Kp (fun k=>k=g) W (((O.setCell ⟨g,2,none⟩ (.int .i32 0)).setCell ⟨g,3,none⟩ (.int .i64 0)).setCell ⟨g,2,none⟩ (.int .i32 (-1)))):=⟨⟨o1,I,v,by rw [U.out.1,U.out.2];exact o3,o4⟩,(((Kp.of_below G).step (Kp.set _ g 2 _) (fun _ _ h=>h)).step (Kp.set _ g 3 _) (fun _ _ h=>h)).step (Kp.set _ g 2 _) (fun _ _ h=>h)⟩;clear Z C k4 m1 m3 m4 n1 n3 n4 o1 o3 o4
   go_wp2_with fail
   go_end0
   exact ⟨rfl,HF.out⟩)
theorem Jm (h:Rs w0 W g s a b f l) (Q:s.size<=2147483647) (O:a<=s.size) :
  Ta 103 #[.pointer (some ⟨g,0,none⟩)] W fun e w'=>e=.returned (.tuple #[])/\Rs w0 w' g s (a+fw s a) b f l/\Kp (fun k=>k=g) W w':=by
 have F:=EO s a O;obtain ⟨G,H,v,C,I⟩:=h;obtain ⟨c0,c1,c2,c3,c4,c5,c6,c7,c8⟩:=Rq.cells C;have z1:=C.frozen 1;obtain ⟨m1,m3,m4⟩:=Rq.set G H C I 1 (.int .i64 ((a+fw s a:Nat):Int)) (a':=a+fw s a) rfl rfl;have Z:IntKind.i64.wrap ((a:Int)+(fw s a:Int))=(a:Int)+(fw s a:Int):=by rw [TJ];omega
 have HL:Hid (∀V,Below (W.setCell ⟨g,1,none⟩ (.int .i64 ((a:Int)+(fw s a:Int)))).heap.size (W.setCell ⟨g,1,none⟩ (.int .i64 ((a:Int)+(fw s a:Int)))) V->Ta 29 #[.pointer (some ⟨g,0,none⟩)] V fun e w'=>e=.returned (.tuple #[])/\Rs w0 w' g s (a+fw s a) b f l/\Kp (fun k=>k=g) W w'):=by
  intro V J;rw [W8] at m1 m3 m4;refine (KE (Rq.below ⟨m1,H,v,m3,m4⟩ J) Q F).mono ?_;rintro e w' ⟨rfl,U,Y⟩;exact ⟨rfl,U,((Kp.set W g 1 _).step (Kp.of_below (S:=fun k=>k=g) J) (fun _ _ h=>h)).step Y (fun _ _ h=>h)⟩
 generalize fw s a=y at *
 clear G C I m1 m3 m4
 go_enter Tryz.func103,Tryz.ntmps103
 go_wp2_with fail
 go_region_law (fail)
 all_goals (
  go_wp2_with (go_at_call 29;refine (HL.out _ (hH _ _).drew).mono ?_;rintro e w1 ⟨rfl,M⟩)
  go_end0
  exact ⟨rfl,M⟩)
theorem Rs.kp {w0 W W':World}{g:Nat}{s:ByteArray}{a b f:Nat}{l:List Tv}{S:Nat->Prop}(h:Rs w0 W g s a b f l) (J:Below w0.heap.size W W') (F:Kp S W W') (M:¬S g) (O:∀k cs T z,W.heap[k]?=some (.cells cs T z)->¬S k):Rs w0 W' g s a b f l:=by
 obtain ⟨G,H,v,I,C⟩:=h;refine ⟨G.trans J,H,v,F.blk I M,?_⟩;refine C.kp F (fun k e=>?_)
 rcases C.2 with ⟨rfl,_⟩|⟨q,cap,U,rfl,_,Q,_⟩
 ·cases e
 ·simp only [Value.ownBlock,Tp] at e;subst e;exact O _ _ _ _ Q
theorem Ss (h:ak s a=6):(sg s a).size≠0:=by
 unfold ak at h
 repeat' split at h
 all_goals first|assumption|(cases h;done)
theorem PL:∀x∈aZ,ay x 0<128/\(x.size=2->ay x 1<128):=by decide
theorem EE (hK:nt w0) (h:Rs w0 W g s a a f l) (hs:s.size<=2147483647) (ha:a<s.size) (hb:bd s a) (J:ak s a=6) (hl:l.length<=2147483647) :
  Ta 65 #[.pointer (some ⟨g,0,none⟩)] W fun e w'=>e=.returned (.int .i64 ((ap s a 6).2:Nat))/\TP w0 w' g s 6 a f l:=by
 have hE:ap s a 6=(a+(sg s a).size,0):=by unfold ap;simp
 have hz:=Ss J;obtain ⟨g1,g2,g3⟩:=jS s a hz;have g4:=(vA _ g3).1;have g5:=PL _ g3
 have G:∀j,j<(sg s a).size->ay s (a+j)=ay (sg s a) j/\ay (sg s a) j<128:=fun j U=>by
  have e:=aI s a (a+(sg s a).size) j (by omega);rw [g2] at e;refine ⟨e.symm,?_⟩
  rcases (show j=0\/(j=1/\(sg s a).size=2) by omega) with rfl|⟨rfl,h2⟩
  ·exact g5.1
  ·exact g5.2 h2
 have ab:Hid (∀V j,j<(sg s a).size->Rs w0 V g s (a+j) a f l->Ta 103 #[.pointer (some ⟨g,0,none⟩)] V fun e w'=>e=.returned (.tuple #[])/\Rs w0 w' g s (a+(j+1)) a f l/\Kp (fun k=>k=g) V w'):=fun V j U H=>by
  have:=Jm H hs (by omega);rw [cr (by omega),(bp s (a+j) (by rw [(G j U).1];exact (G j U).2)).1] at this;exact this
 have aa:Hid (∀j,j<(sg s a).size->(Utf8.decode (sg s a) j).2=1/\(Utf8.decode (sg s a) j).1<128):=fun j U=>by
  obtain ⟨e1,e2,_⟩:=bp (sg s a) j (G j U).2;unfold dw at e1;unfold dp at e2;exact ⟨e1,by rw [e2];exact (G j U).2⟩
 obtain ⟨x,Z⟩:∃x,sg s a=x:=⟨_,rfl⟩;have af:Hid (∀V,Rs w0 V g s (a+x.size) a f l->Ta 106 #[.pointer (some ⟨g,0,none⟩),.int .u8 6] V fun e w'=>e=.returned (.int .i64 0)/\Rs w0 w' g s (a+x.size) a 0 (l++[tv s (bS s 6 a (a+x.size) f)])):=fun V H=>dy H 6 hs (by omega) (by rw [<-Z];exact g1) hl (by intro h;cases h)
 have HS:Hid (∀V,Below W.heap.size W V->Ta 112 #[.string s,.int .i64 a] V fun e w'=>e=.returned (.string x)/\Below V.heap.size V w'):=fun V H=>by
  rw [<-Z];exact zW s a V (hK.below (h.bel.trans (H.mono h.bel.size))).2.2 ha
 have HE:Hid (ap s a 6=(a+x.size,0)):=by rw [<-Z];exact hE
 rw [Z] at ab aa hz g4;have HR:Hid (∀V,Below W.heap.size W V->Rs w0 V g s a a f l):=fun V H=>h.below H
 have HK:Hid (∀V,Below W.heap.size W V->V.cell? ⟨g,0,none⟩=some (.string s)/\V.cell? ⟨g,1,none⟩=some (.int .i64 a)/\Below W.heap.size W V):=fun V H=>by
  obtain ⟨h1,h2,v,h3,h4⟩:=Rq.below h H;exact ⟨(Rq.cells h3).1,(Rq.cells h3).2.1,H⟩
 have ai:x.toList.isEmpty=false:=by
  cases e:x.toList with
  |cons _ _=>rfl
  |nil=>
   rw [sw] at e;have:x.data.toList.length=0:=by rw [e];rfl
   rw [TQ] at this;exact absurd this hz
 clear hE g1 g2 g3 g5 G Z h J
 go_enter Tryz.func65,Tryz.ntmps65
 go_wp2_with fail
 go_region_held3 (fun w'=>w'.cell? ⟨g,0,none⟩=some (.string s)/\w'.cell? ⟨g,1,none⟩=some (.int .i64 a)/\Below W.heap.size W w') (first|(exact HK.out _ (by assumption))|(exact HK.out _ (hH _ _).drew)|go_keep) (first|(go_at_call 112;refine (HS.out _ (by first|assumption|exact (hH _ _).drew)).mono ?_;rintro e C ⟨rfl,ac⟩;have O:=(by first|exact (hH W.heap.size W).drew.trans (ac.mono (gt _))|exact (by assumption:Below W.heap.size W _).trans (ac.mono (Vz (by assumption))):Below W.heap.size W C)))
 all_goals (
  have ae:Hid (Rs w0 (C.iter x 0) g s (a+0) a f l/\(C.iter x 0).heap[C.heap.size]?=some (.stringIter x 0)):=⟨(HR.out _ O).below (eC C x 0),World.iter_heap C x 0⟩
  have HG:Hid (g≠C.heap.size):=by
   obtain ⟨_,_,v,h3,_⟩:=HR.out _ O;have:=au h3;show g≠_;omega
  have ag:Hid (w0.heap.size<=C.heap.size):=(HR.out _ O).bel.size;clear HR HK HS
  go_wp2_with fail
  go_loopw [] (fun wr=>∃pos:Nat,pos<=x.size/\Hid (Rs w0 wr g s (a+pos) a f l/\wr.heap[C.heap.size]?=some (.stringIter x pos))) (fun wr=>x.size-wr.iterPos C.heap.size)
  case atStart=>exact ⟨0,SW _,ae⟩
  case round=>
   obtain ⟨pos,ah,I⟩:=hrel
   by_cases Y:pos<x.size
   ·have hnx:∀M,(Instr.next (.pointer (some ⟨C.heap.size,0,none⟩)) true M).run Tryz.prog wr=_:=fun M=>Lib.run_next_any_at wr C.heap.size x pos M I.out.2 Y
    obtain ⟨d1,d2⟩:=aa.out pos Y
    have F:Hid (Rs w0 (wr.iterAt C.heap.size x (pos+1)) g s (a+pos) a f l/\(wr.iterAt C.heap.size x (pos+1)).heap[C.heap.size]?=some (.stringIter x (pos+1))):=by
     refine ⟨Rs.kp (S:=fun k=>k=C.heap.size) I.out.1 (Lib.below_iterAt (hH _ _) ag.out x _) ⟨rfl,rfl,rfl,by rw [Lib.iterAt_size];exact gt _,fun k _ J=>Lib.iterAt_other _ _ _ _ _ J⟩ HG.out (fun k cs T z J e=>?_),Lib.iterAt_heap _ _ _ _ _ I.out.2⟩;rw [e,I.out.2] at J;cases J
    have HM:Hid (wr.iterPos C.heap.size=pos):=by
     show _=_
     unfold World.iterPos;rw [I.out.2]
    rw [d1] at hnx;clear I
    go_wp2_with (first|(go_at_call 103;refine (ab.out _ pos Y F.out.1).mono ?_;rintro e w3 ⟨rfl,Q,ad⟩))
    refine ⟨⟨pos+1,Y,Q,ad.blk F.out.2 (fun e=>HG.out e.symm)⟩,?_⟩;rw [HM.out];have e:w3.iterPos C.heap.size=pos+1:=by unfold World.iterPos;rw [ad.blk F.out.2 (fun e=>HG.out e.symm)]
    rw [e];omega
   ·have hnx:∀M,(Instr.next (.pointer (some ⟨C.heap.size,0,none⟩)) true M).run Tryz.prog wr=_:=fun M=>Lib.run_next_end_at wr C.heap.size x pos M I.out.2 Y
    have F:Hid (Rs w0 wr g s (a+x.size) a f l):=by
     have:=I.out.1;rw [show pos=x.size by omega] at this;exact this
    clear I
    go_wp2_with (first|(go_at_call 106;refine (af.out _ F.out).mono ?_;rintro e w3 ⟨rfl,Q⟩))
    go_ret
    rw [HE.out];exact ⟨rfl,TP.ok HE.out Q⟩)
theorem B3 (S:nt w0) (h:Rs w0 W g s a a f l) (hs:s.size<=2147483647) (U:a<s.size) (M:(sg s a).size=0) :
  Ta 65 #[.pointer (some ⟨g,0,none⟩)] W fun e w'=>e=.returned (.int .i64 100)/\Rs w0 w' g s a a f l:=by
 have J:sg s a=⟨#[]⟩:=dr _ _ (by rw [M];rfl) (fun j hj=>by omega)
 have Q:Hid (∀V,Tb W V->Ta 112 #[.string s,.int .i64 a] V fun e w'=>e=.returned (.string ⟨#[]⟩)/\Tb V w'):=fun V C=>by
  rw [<-J];exact zW s a V (S.below (h.bel.trans (C.mono h.bel.size))).2.2 U
 have O:Hid (∀V,Tb W V->Rs w0 V g s a a f l):=fun V C=>h.below C
 have H:Hid (∀V,Tb W V->V.cell? ⟨g,0,none⟩=some (.string s)/\V.cell? ⟨g,1,none⟩=some (.int .i64 a)/\Tb W V):=fun V C=>by
  obtain ⟨Z,h2,v,I,h4⟩:=Rq.below h C;exact ⟨(Rq.cells I).1,(Rq.cells I).2.1,C⟩
 clear J h M
 go_enter Tryz.func65,Tryz.ntmps65
 go_wp2_with fail
 go_region_held3 (fun w'=>w'.cell? ⟨g,0,none⟩=some (.string s)/\w'.cell? ⟨g,1,none⟩=some (.int .i64 a)/\Below W.heap.size W w') (first|(exact H.out _ (by assumption))|(exact H.out _ (hH _ _).drew)|go_keep) (first|(go_at_call 112;refine (Q.out _ (by first|assumption|exact (hH _ _).drew)).mono ?_;rintro e Y ⟨rfl,F⟩;have G:=(by first|exact (hH W.heap.size W).drew.trans (F.mono (gt _))|exact (by assumption:Below W.heap.size W _).trans (F.mono (Vz (by assumption))):Below W.heap.size W Y)))
 all_goals (
  go_wp2_with fail
  go_ret
  exact ⟨rfl,O.out _ G⟩)
theorem DI (s:ByteArray) (a:Nat):ak s a=0\/ak s a=1\/ak s a=3\/ak s a=4\/ak s a=5\/ak s a=6\/ak s a=7\/ak s a=8:=by
 unfold ak
 repeat' split
 all_goals simp
theorem bA {k:Nat}(h:ak s a=k):(k≠1->(gd s a && fL (dp s a))=false)/\(k≠1->k≠3->cK (ay s a)=false)/\(k≠1->k≠3->k≠4->ay s a≠34)/\(k≠1->k≠3->k≠4->k≠5->ay s a≠39) /\
  (k≠1->k≠3->k≠4->k≠5->k≠7->¬(ay s a=47/\a+1<s.size/\ay s (a+1)=47))/\(k≠1->k≠3->k≠4->k≠5->k≠7->k≠8->ay s a≠123)/\(k≠1->k≠3->k≠4->k≠5->k≠7->k≠8->k≠6->(sg s a).size=0):=by
 unfold ak at h
 by_cases c1:(gd s a && fL (dp s a))=true
 ·grind
 ·rw [Eq c1] at h;have C:(gd s a && fL (dp s a))=false:=by simpa using c1
  by_cases c2:cK (ay s a)=true
  ·grind
  ·grind
theorem tc :pre s a ⟨#[47,47]⟩=decide (ay s a=47/\a+1<s.size/\ay s (a+1)=47):=by
 unfold pre;rw [UF];have M:(⟨#[47,47]⟩:ByteArray).size=2:=rfl;rw [M];constructor
 ·rintro ⟨G,H⟩;have C:=aI s a (a+2) 0 (by omega);have F:=aI s a (a+2) 1 (by omega);rw [H] at C F;exact ⟨by rw [show a=a+0 by omega,<-C];rfl,by omega,by rw [<-F];rfl⟩
 ·rintro ⟨G,H,I⟩;refine ⟨by omega,dr _ _ (by rw [av s _ _ (by omega)];show a+2-a=2;omega) (fun j J=>?_)⟩;rw [av s _ _ (by omega)] at J;rw [aI s a _ j (by omega)]
  rcases (show j=0\/j=1 by omega) with rfl|rfl
  ·rw [TS,G];rfl
  ·rw [I];rfl
theorem RA (C:ak s a=7) (d1:a<s.size):pre s a ⟨#[47,47]⟩=true:=by rw [tc];exact Tf (OW C)
theorem RC (C:ak s a=6) (d1:a<s.size):pre s a ⟨#[47,47]⟩=false:=by rw [tc];exact Tg ((bA C).2.2.2.2.1 (by decide) (by decide) (by decide) (by decide) (by decide))
theorem RD (C:ak s a=0) (d1:a<s.size):pre s a ⟨#[47,47]⟩=false:=by rw [tc];exact Tg ((bA C).2.2.2.2.1 (by decide) (by decide) (by decide) (by decide) (by decide))
theorem RK (C:ak s a=1):(gd s a && fL (dp s a))=true:=QB C
theorem RW (C:ak s a=3):cK (ay s a)=true:=QA C
theorem RJ (C:ak s a=3):(gd s a && fL (dp s a))=false:=(bA C).1 (by decide)
theorem RI (C:ak s a=4):(gd s a && fL (dp s a))=false:=(bA C).1 (by decide)
theorem RH (C:ak s a=5):(gd s a && fL (dp s a))=false:=(bA C).1 (by decide)
theorem RF (C:ak s a=7):(gd s a && fL (dp s a))=false:=(bA C).1 (by decide)
theorem RE (C:ak s a=8):(gd s a && fL (dp s a))=false:=(bA C).1 (by decide)
theorem RG (C:ak s a=6):(gd s a && fL (dp s a))=false:=(bA C).1 (by decide)
theorem RM (C:ak s a=0):(gd s a && fL (dp s a))=false:=(bA C).1 (by decide)
theorem RV (C:ak s a=4):cK (ay s a)=false:=(bA C).2.1 (by decide) (by decide)
theorem RU (C:ak s a=5):cK (ay s a)=false:=(bA C).2.1 (by decide) (by decide)
theorem RR (C:ak s a=7):cK (ay s a)=false:=(bA C).2.1 (by decide) (by decide)
theorem RQ (C:ak s a=8):cK (ay s a)=false:=(bA C).2.1 (by decide) (by decide)
theorem RT (C:ak s a=6):cK (ay s a)=false:=(bA C).2.1 (by decide) (by decide)
theorem RX (C:ak s a=0):cK (ay s a)=false:=(bA C).2.1 (by decide) (by decide)
theorem Ry (C:ak s a=5):ay s a≠34:=(bA C).2.2.1 (by decide) (by decide) (by decide)
theorem Rv (C:ak s a=7):ay s a≠34:=(bA C).2.2.1 (by decide) (by decide) (by decide)
theorem Rr (C:ak s a=8):ay s a≠34:=(bA C).2.2.1 (by decide) (by decide) (by decide)
theorem Rx (C:ak s a=6):ay s a≠34:=(bA C).2.2.1 (by decide) (by decide) (by decide)
theorem Rz (C:ak s a=0):ay s a≠34:=(bA C).2.2.1 (by decide) (by decide) (by decide)
theorem RZ (C:ak s a=7):ay s a≠39:=(bA C).2.2.2.1 (by decide) (by decide) (by decide) (by decide)
theorem RY (C:ak s a=8):ay s a≠39:=(bA C).2.2.2.1 (by decide) (by decide) (by decide) (by decide)
theorem R3 (C:ak s a=6):ay s a≠39:=(bA C).2.2.2.1 (by decide) (by decide) (by decide) (by decide)
theorem R4 (C:ak s a=0):ay s a≠39:=(bA C).2.2.2.1 (by decide) (by decide) (by decide) (by decide)
theorem R5 (C:ak s a=7):ay s a≠123:=by rw [(OW C).1];decide
theorem R6 (C:ak s a=6):ay s a≠123:=(bA C).2.2.2.2.2.1 (by decide) (by decide) (by decide) (by decide) (by decide) (by decide)
theorem R7 (C:ak s a=0):ay s a≠123:=(bA C).2.2.2.2.2.1 (by decide) (by decide) (by decide) (by decide) (by decide) (by decide)
theorem Rp (C:ak s a=0):(sg s a).size=0:=(bA C).2.2.2.2.2.2 (by decide) (by decide) (by decide) (by decide) (by decide) (by decide) (by decide)
structure JR (w0 W:World) (g:Nat) (s:ByteArray) (a b f:Nat) (l:List Tv):Prop where
 asz:a<=s.size
 ba:b<=a
 bda:bd s a
 bdb:bd s b
 rs:Rs w0 W g s a b f l
 fa:f<=a
 la:l.length<=a
 toks:l++(ep s a f).1.map (tv s)=(cV s).1.map (tv s)
 err:(ep s a f).2=(cV s).2
def RP (w0 w':World) (g:Nat) (s:ByteArray):Prop:=∃a' b' f',Rs w0 w' g s a' b' f' ((cV s).1.map (tv s))/\bd s a'/\bd s b'/\b'<=a'/\((cV s).2.1=102->a'=(cV s).2.2)/\((cV s).2.1≠0->(cV s).2.1≠102->b'=(cV s).2.2)
theorem JR.done (h:JR w0 W g s a b f l) (G:s.size<=a):RP w0 W g s/\(cV s).2.1=0:=by
 have e:=dq s a f G;have F:=h.toks;have C:=h.err;rw [e] at F C;rw [Wx,TG] at F;refine ⟨⟨a,b,f,by rw [<-F];exact h.rs,h.bda,h.bdb,h.ba,?_,?_⟩,by rw [<-C]⟩
 ·rw [<-C];intro h;cases h
 ·rw [<-C];intro h;exact absurd rfl h
theorem JR.feed (h:JR w0 W g s a b f l) (C:a<s.size) (F:ay s a=10) (G:Rs w0 W' g s (a+fw s a) b (if bk s a=10 then f+1 else f) l):JR w0 W' g s (a+1) b (f+1) l:=by
 have e:=bP s a f C;rw [IO F] at e;have H:bk s a=10:=(bL s a 10 (by decide) C).2 F;rw [IO H,cr C,(bp s a (by omega)).1] at G;have I:=h.ba;have J:=h.fa;have M:=h.la;exact ⟨C,by omega,(kj s a C (by omega)).2,h.bdb,G,by omega,by omega,by rw [<-e];exact h.toks,by rw [<-e];exact h.err⟩
theorem JR.blank (h:JR w0 W g s a b f l) (C:a<s.size) (F:ay s a≠10) (G:cq (ay s a)=true) (J:Rs w0 W' g s (a+fw s a) b (if bk s a=10 then f+1 else f) l):JR w0 W' g s (a+1) b f l:=by
 have e:=bP s a f C;rw [Eq F,IO G] at e;have I:=OU G;have H:¬bk s a=10:=fun h=>F ((bL s a 10 (by decide) C).1 h)
 rw [Eq H,cr C,(bp s a I).1] at J;have M:=h.ba;have O:=h.fa;have Q:=h.la;exact ⟨C,by omega,(kj s a C I).2,h.bdb,J,by omega,by omega,by rw [<-e];exact h.toks,by rw [<-e];exact h.err⟩
theorem JR.tok (h:JR w0 W g s a b f l) (H:a<s.size) (M:ay s a≠10) (O:cq (ay s a)=false) {k:Nat}(I:ak s a=k) (C:k≠0) (F:(ap s a k).2=0) (G:TP w0 W' g s k a f l) :
  JR w0 W' g s (ap s a k).1 a 0 (l++[tv s (bS s k a (ap s a k).1 f)])/\a<(ap s a k).1:=by
 have e:=bP s a f H;have J:=da s a k (ap s a k).1 H I C (VU rfl F);have Q:bd s (ap s a k).1:=OA h.bda H I C rfl;unfold TP at G;rw [IO F] at G;rw [Eq M,Eq (by rw [O];decide),I,Eq C,Eq (by rw [F];decide)] at e;have S:=h.la;refine ⟨⟨J.2,T5 J.1,Q,h.bda,G,SW _,by rw [Or];simp;omega,?_,?_⟩,J.1⟩
 ·have:=h.toks;rw [e] at this;rw [<-this];simp
 ·have:=h.err;rw [e] at this;exact this
theorem JR.bad (h:JR w0 W g s a b f l) (S:a<s.size) (M:ay s a≠10) (O:cq (ay s a)=false) {k:Nat}(Z:ak s a=k) (Y:k≠0) (I:(ap s a k).2≠0) (J:TP w0 W' g s k a f l) :
  RP w0 W' g s/\(cV s).2.1=(ap s a k).2:=by
 have e:=bP s a f S;unfold TP at J;rw [Eq I] at J;rw [Eq M,Eq (by rw [O];decide),Z,Eq Y,IO I] at e;have G:=h.toks;have C:=h.err;rw [e] at G C;rw [Wx,TG] at G;obtain ⟨U,t1,t2,t3,t4⟩:=J;have F:(cV s).2.1=(ap s a k).2:=by rw [<-C]
 have Q:(cV s).2.2=(ap s a k).1:=by rw [<-C]
 refine ⟨⟨U,a,f,by rw [<-G];exact t3,t1,h.bda,t2,fun h=>?_,fun _ C=>?_⟩,F⟩
 ·rw [Q];exact t4 (by rw [<-F];exact h)
 ·rw [Q]
  rcases A1 (p:=(ap s a k).1) (e:=(ap s a k).2) S rfl I with ⟨H,_⟩|⟨H,_⟩
  ·exact H.symm
  ·exact absurd (by rw [F];exact H) C
theorem JR.none (h:JR w0 W g s a b f l) (I:a<s.size) (G:ay s a≠10) (H:cq (ay s a)=false) (J:ak s a=0) (M:Rs w0 W' g s a a f l) :
  RP w0 W' g s/\(cV s).2.1=100:=by
 have e:=bP s a f I;rw [Eq G,Eq (by rw [H];decide),IO J] at e;have F:=h.toks;have C:=h.err;rw [e] at F C;rw [Wx,TG] at F;refine ⟨⟨a,a,f,by rw [<-F];exact M,h.bda,h.bda,gt _,?_,?_⟩,by rw [<-C]⟩
 ·rw [<-C];intro h;cases h
 ·rw [<-C];intro _ _;rfl
theorem qF {P:Program}{a:Act}{w:World}{Q:Exit->Act->World->Prop}{r rest:Code}(l:Nat) (J:Act->World->Prop) (μ:Act->World->Nat) (I:findLabel (r.seq ((Code.label l).seq rest)) l=some (Code.skip.seq rest))
  (first:r.wp P (Exit.then (fun a w=>J a w) (fun _ _ _=>False)) a w)
  (C:∀a w,J a w->rest.wp P (Exit.jump l (fun G w'=>J G w'/\μ G w' < μ a w) Q) a w):(Code.scope (r.seq ((Code.label l).seq rest))).wp P Q a w:=by
 refine Vg l J μ I ?_ (fun a w h=>wp_seq (wp_skip (C a w h)));refine wp_seq (wp_mono first ?_);intro e G w' h;cases e with
 |normal=>
  refine wp_seq (wp_label ?_);refine wp_mono (C G w' h) ?_;intro H M O F;cases H with
  |goto l'=>exact ⟨F.1,F.2.1⟩
  |normal=>exact F
  |exit id=>exact F
  |ret=>exact F
  |panic ch=>exact F
  |outgrown=>exact F
 |goto l'=>exact h.elim
 |exit id=>exact h.elim
 |ret=>exact h.elim
 |panic ch=>exact h.elim
 |outgrown=>exact h.elim
set_option maxRecDepth 100000 in
theorem pi (hK:nt w0) (h:Rs w0 W g s 0 0 0 []) (hs:s.size<=2147483647) :
  Ta 30 #[.pointer (some ⟨g,0,none⟩)] W fun e w'=>e=.returned (.int .i64 ((cV s).2.1:Nat))/\RP w0 w' g s:=by
 have az:Hid (JR w0 W g s 0 0 0 []):=⟨SW _,gt _,uE s,uE s,h,gt _,gt _,rfl,rfl⟩
 have HC:Hid (∀V a b,∀{f:Nat} {l:List Tv},Rs w0 V g s a b f l->V.cell? ⟨g,0,none⟩=some (.string s)/\V.cell? ⟨g,1,none⟩=some (.int .i64 a)/\V.cell? ⟨g,2,none⟩=some (.int .i32 (bk s a))):=fun V a b f l hr=>by
  obtain ⟨bc,bd,v,h3,h4⟩:=hr;exact ⟨(Rq.cells h3).1,(Rq.cells h3).2.1,(Rq.cells h3).2.2.1⟩
 clear h
 go_enter Tryz.func30,Tryz.ntmps30
 go_wp2_with fail
 refine qF 0 (fun a' w'=>∃(a b f:Nat) (l:List Tv) (u1 u2 u3 u4 u5 u6 u7 u8 u9 u10 u11 u12 u13 u14 u15 u16 u17 u18 u19 u20 u21 u22 u23 u24 u25 u26 u27 u28 u29 u30 u31 u32 u33 u34 u35 u36 u37 u38 u39 u40 u41 u42 u43 u44 u45 u46 u47 u48 u49 u50 u51 u52 u53 u54 u55 u56 u57 u58 u59 u60 u61 u62 u63 u64 u65 u66 u67 u68 u69 u70 u71 u72 u73 u74 u75 u76 u77 u78 u79 u80 u81 u82:Value),Hid (JR w0 w' g s a b f l)/\a'={ tmps:=#[.pointer (some ⟨g,0,none⟩),u1,u2,u3,u4,u5,u6,u7,u8,u9,u10,u11,u12,u13,u14,u15,u16,u17,u18,u19,u20,u21,u22,u23,u24,u25,u26,u27,u28,u29,u30,u31,u32,u33,u34,u35,u36,u37,u38,u39,u40,u41,u42,u43,u44,u45,u46,u47,u48,u49,u50,u51,u52,u53,u54,u55,u56,u57,u58,u59,u60,u61,u62,u63,u64,u65,u66,u67,u68,u69,u70,u71,u72,u73,u74,u75,u76,u77,u78,u79,u80,u81,u82],defers:=[] }) (fun _ w'=>s.size-gr w' g 1) rfl ?_ ?_
 ·go_wp2_with fail
  exact ⟨0,0,0,[],_,_,_,_,_,_,_,_,_,_,_,_,_,_,_,_,_,_,_,_,_,_,_,_,_,_,_,_,_,_,_,_,_,_,_,_,_,_,_,_,_,_,_,_,_,_,_,_,_,_,_,_,_,_,_,_,_,_,_,_,_,_,_,_,_,_,_,_,_,_,_,_,_,_,_,_,_,_,_,_,_,_,az,rfl⟩
 ·rintro a' w' ⟨a,b,f,l,u1,u2,u3,u4,u5,u6,u7,u8,u9,u10,u11,u12,u13,u14,u15,u16,u17,u18,u19,u20,u21,u22,u23,u24,u25,u26,u27,u28,u29,u30,u31,u32,u33,u34,u35,u36,u37,u38,u39,u40,u41,u42,u43,u44,u45,u46,u47,u48,u49,u50,u51,u52,u53,u54,u55,u56,u57,u58,u59,u60,u61,u62,u63,u64,u65,u66,u67,u68,u69,u70,u71,u72,u73,u74,u75,u76,u77,u78,u79,u80,u81,u82,HJ,rfl⟩;have HX:Hid (gr w' g 1=a):=HJ.out.rs.at;have HR:Hid (Rs w0 w' g s a b f l):=HJ.out.rs;have z0:=(HC.out _ _ _ HR.out).2.2;have bf:=HJ.out.la;have be:=HJ.out.fa;have an:=HJ.out.asz
  by_cases hd:s.size<=a
  ·rw [(dJ s a).2 hd] at z0;have HE:=HJ.out.done hd;have ab:Hid (RP w0 w' g s/\(cV s).2.1=0):=HE;clear HE hd
   go_wp2_with fail
   simp only [Exit.jump]
   go_ret
   rw [ab.out.2];exact ⟨rfl,ab.out.1⟩
  ·have d1:a<s.size:=by omega
   have e0:(bk s a == -1)=false:=by rw [Tq];exact fun h=>hd ((dJ s a).1 h)
   have rg:=Aa s a;have aw:0<=bk s a:=by rw [gO d1];omega
   have bb:=vX HR.out (by omega) an (by omega);have ar:Hid (∀V,Rs w0 V g s a b f l->Ta 57 #[.pointer (some ⟨g,0,none⟩)] V fun e w'=>e=.returned (.tuple #[])/\Rs w0 w' g s (a+fw s a) b (if bk s a=10 then f+1 else f) l):=fun V G=>vX G (by omega) an (by omega)
   clear bb
   by_cases U:ay s a=10
   ·have av:bk s a=10:=(bL s a 10 (by decide) d1).2 U;have aq:Hid (∀V,Rs w0 V g s (a+fw s a) b (if bk s a=10 then f+1 else f) l->JR w0 V g s (a+1) b (f+1) l):=fun V G=>HJ.out.feed d1 U G
    rw [av] at z0;clear U hd e0
    go_wp2_with (first|(go_at_call 57;refine (ar.out _ HR.out).mono ?_;rintro e w1 ⟨rfl,O⟩;have hj:=aq.out _ O))
    go_step3
    refine ⟨rfl,⟨a+1,b,f+1,l,_,_,_,_,_,_,_,_,_,_,_,_,_,_,_,_,_,_,_,_,_,_,_,_,_,_,_,_,_,_,_,_,_,_,_,_,_,_,_,_,_,_,_,_,_,_,_,_,_,_,_,_,_,_,_,_,_,_,_,_,_,_,_,_,_,_,_,_,_,_,_,_,_,_,_,_,_,_,_,_,_,_,hj,rfl⟩,?_⟩;rw [HX.out,hj.rs.at];omega
   ·have av:(bk s a == 10)=false:=by rw [Tq];exact fun h=>U ((bL s a 10 (by decide) d1).1 h)
    have aj:=Qv s a d1
    by_cases ad:cq (ay s a)=true
    ·have ah:Hid (∀V,Ta 56 #[.int .i32 (bk s a)] V fun e w'=>e=.returned (.bool true)/\Tb V w'):=fun V=>by
      rw [<-ad,<-aj];exact mS _ _ aw
     have aq:Hid (∀V,Rs w0 V g s (a+fw s a) b (if bk s a=10 then f+1 else f) l->JR w0 V g s (a+1) b f l):=fun V G=>HJ.out.blank d1 U ad G
     clear U hd ad aj
     go_wp2_with (first|(go_at_call 56;refine (ah.out _).mono ?_;rintro e w1 ⟨rfl,ac⟩;have O:=Rq.below HR.out ac;have z1:=(HC.out _ _ _ O).2.2)|(go_at_call 57;refine (ar.out _ O).mono ?_;rintro e w2 ⟨rfl,hr2⟩;have hj:=aq.out _ hr2))
     go_step3
     refine ⟨rfl,⟨a+1,b,f,l,_,_,_,_,_,_,_,_,_,_,_,_,_,_,_,_,_,_,_,_,_,_,_,_,_,_,_,_,_,_,_,_,_,_,_,_,_,_,_,_,_,_,_,_,_,_,_,_,_,_,_,_,_,_,_,_,_,_,_,_,_,_,_,_,_,_,_,_,_,_,_,_,_,_,_,_,_,_,_,_,_,_,hj,rfl⟩,?_⟩;rw [HX.out,hj.rs.at];omega
    ·have af:cq (ay s a)=false:=by simpa using ad
     have ah:Hid (∀V,Ta 56 #[.int .i32 (bk s a)] V fun e w'=>e=.returned (.bool false)/\Tb V w'):=fun V=>by
      rw [<-af,<-aj];exact mS _ _ aw
     have I:=HJ.out.bda;have au:Hid (∀V,Rs w0 V g s a b f l->Ta 58 #[.pointer (some ⟨g,0,none⟩)] V fun e w'=>e=.returned (.tuple #[])/\Rs w0 w' g s a a f l):=fun V G=>Ju G (by omega) HJ.out.ba HJ.out.bdb I
     have bh:IntKind.i64.wrap (bk s a)=bk s a:=by rw [TJ];omega
     have aa:l.length<=2147483647:=by omega
     have HN:Hid (ay s a≠10/\cq (ay s a)=false):=⟨U,af⟩;have Z:s.size<=2147483647:=by omega
     have qs:(a:Int)<=s.size:=by omega
     have am:=DI s a;clear U hd ad af aj ar
     rcases am with C|C|C|C|C|C|C|C
     ·have Q:Hid (∀V,Rs w0 V g s a a f l->Ta 59 #[.int .i64 (bk s a)] V fun e w'=>e=.returned (.bool false)/\w'=V):=fun V G=>by
       have F:=dC (bk s a) V (hK.below G.bel).1;rw [show fL (bk s a)=false by rw [eG s a d1];exact RM C] at F;exact F
      have S:Hid (∀V,Ta 60 #[.int .i32 (bk s a)] V fun e w'=>e=.returned (.bool false)/\w'=V):=fun V=>by
       have F:=bT (bk s a) V;rw [eh,Tf d1,T6,show cK (ay s a)=false from RX C] at F;exact F
      have ae:(bk s a == 34)=false:=by rw [Tq];exact fun h=>Rz C ((bL s a 34 (by decide) d1).1 h)
      have al:(bk s a == 39)=false:=by rw [Tq];exact fun h=>R4 C ((bL s a 39 (by decide) d1).1 h)
      have ag:(bk s a == 123)=false:=by rw [Tq];exact fun h=>R7 C ((bL s a 123 (by decide) d1).1 h)
      have ai:Hid (∀V,Ta 63 #[.string (s.extract a s.size),.string ⟨#[47,47]⟩] V fun e w'=>e=.returned (.bool false)/\w'=V):=fun V=>by
       have F:=tP (s.extract a s.size) ⟨#[47,47]⟩ V;rw [kN s _ a (by omega),show pre s a ⟨#[47,47]⟩=false from RD C d1] at F;exact F
      have H:Hid (∀V,Rs w0 V g s a a f l->Ta 65 #[.pointer (some ⟨g,0,none⟩)] V fun e w'=>e=.returned (.int .i64 100)/\Rs w0 w' g s a a f l):=fun V G=>B3 hK G Z d1 (Rp C)
      have ab:Hid (∀V,Rs w0 V g s a a f l->RP w0 V g s/\(cV s).2.1=100):=fun V G=>HJ.out.none d1 HN.out.1 HN.out.2 C G
      clear C I
      go_wp2_with (first|(go_at_call 56;refine (ah.out _).mono ?_;rintro e w1 ⟨rfl,ac⟩;have O:=Rq.below HR.out ac;have z1:=(HC.out _ _ _ O).2.2)|(go_at_call 58;refine (au.out _ O).mono ?_;rintro e w2 ⟨rfl,hr2⟩;obtain ⟨y0,y1,y2⟩:=HC.out _ _ _ hr2)|(go_at_call 59;refine (Q.out _ hr2).mono ?_;rintro e w3 ⟨rfl,hw⟩;replace hw:=hw.symm;subst hw)|(go_at_call 60;refine (S.out _).mono ?_;rintro e w4 ⟨rfl,hw⟩;replace hw:=hw.symm;subst hw))
      go_quiet ((go_at_call 63;exact Calls.quiet_of_same (ai.out _)))
      go_wp2_with (first|(go_at_call 65;refine (H.out _ (Rq.below hr2 (eD _ _))).mono ?_;rintro e w5 ⟨rfl,Y⟩))
      simp only [Exit.jump]
      go_ret
      rw [(ab.out _ Y).2];exact ⟨rfl,(ab.out _ Y).1⟩
     have Q:Hid (∀V,Rs w0 V g s a a f l->Ta 59 #[.int .i64 (bk s a)] V fun e w'=>e=.returned (.bool true)/\w'=V):=fun V G=>by
      have F:=dC (bk s a) V (hK.below G.bel).1;rw [show fL (bk s a)=true by rw [eG s a d1];exact RK C] at F;exact F
     obtain ⟨E,J⟩:∃E,(ap s a 1).2=E:=⟨_,rfl⟩
     have H:Hid (∀V,Rs w0 V g s a a f l->Ta 61 #[.pointer (some ⟨g,0,none⟩)] V fun e w'=>e=.returned (.int .i64 (E:Nat))/\TP w0 w' g s 1 a f l):=fun V G=>by
      rw [<-J];exact FT hK G Z d1 I C aa
     have M:Hid (ak s a=1/\(ap s a 1).2=E):=⟨C,J⟩;clear C I J
     rotate_left
     have Q:Hid (∀V,Rs w0 V g s a a f l->Ta 59 #[.int .i64 (bk s a)] V fun e w'=>e=.returned (.bool false)/\w'=V):=fun V G=>by
      have F:=dC (bk s a) V (hK.below G.bel).1;rw [show fL (bk s a)=false by rw [eG s a d1];exact RJ C] at F;exact F
     have S:Hid (∀V,Ta 60 #[.int .i32 (bk s a)] V fun e w'=>e=.returned (.bool true)/\w'=V):=fun V=>by
      have F:=bT (bk s a) V;rw [eh,Tf d1,T6,show cK (ay s a)=true from RW C] at F;exact F
     obtain ⟨E,J⟩:∃E,(ap s a 3).2=E:=⟨_,rfl⟩
     have H:Hid (∀V,Rs w0 V g s a a f l->Ta 61 #[.pointer (some ⟨g,0,none⟩)] V fun e w'=>e=.returned (.int .i64 (E:Nat))/\TP w0 w' g s 3 a f l):=fun V G=>by
      rw [<-J];exact Kj G Z d1 I C aa
     have M:Hid (ak s a=3/\(ap s a 3).2=E):=⟨C,J⟩;clear C I J
     rotate_left
     have Q:Hid (∀V,Rs w0 V g s a a f l->Ta 59 #[.int .i64 (bk s a)] V fun e w'=>e=.returned (.bool false)/\w'=V):=fun V G=>by
      have F:=dC (bk s a) V (hK.below G.bel).1;rw [show fL (bk s a)=false by rw [eG s a d1];exact RI C] at F;exact F
     have S:Hid (∀V,Ta 60 #[.int .i32 (bk s a)] V fun e w'=>e=.returned (.bool false)/\w'=V):=fun V=>by
      have F:=bT (bk s a) V;rw [eh,Tf d1,T6,show cK (ay s a)=false from RV C] at F;exact F
     have ae:(bk s a == 34)=true:=by rw [TY];exact (bL s a 34 (by decide) d1).2 (Qz C)
     obtain ⟨E,J⟩:∃E,(ap s a 4).2=E:=⟨_,rfl⟩
     have H:Hid (∀V,Rs w0 V g s a a f l->Ta 62 #[.pointer (some ⟨g,0,none⟩)] V fun e w'=>e=.returned (.int .i64 (E:Nat))/\TP w0 w' g s 4 a f l):=fun V G=>by
      rw [<-J];exact Ea G Z d1 I C aa
     have M:Hid (ak s a=4/\(ap s a 4).2=E):=⟨C,J⟩;clear C I J
     rotate_left
     have Q:Hid (∀V,Rs w0 V g s a a f l->Ta 59 #[.int .i64 (bk s a)] V fun e w'=>e=.returned (.bool false)/\w'=V):=fun V G=>by
      have F:=dC (bk s a) V (hK.below G.bel).1;rw [show fL (bk s a)=false by rw [eG s a d1];exact RH C] at F;exact F
     have S:Hid (∀V,Ta 60 #[.int .i32 (bk s a)] V fun e w'=>e=.returned (.bool false)/\w'=V):=fun V=>by
      have F:=bT (bk s a) V;rw [eh,Tf d1,T6,show cK (ay s a)=false from RU C] at F;exact F
     have ae:(bk s a == 34)=false:=by rw [Tq];exact fun h=>Ry C ((bL s a 34 (by decide) d1).1 h)
     have al:(bk s a == 39)=true:=by rw [TY];exact (bL s a 39 (by decide) d1).2 (Qy C)
     obtain ⟨E,J⟩:∃E,(ap s a 5).2=E:=⟨_,rfl⟩
     have H:Hid (∀V,Rs w0 V g s a a f l->Ta 62 #[.pointer (some ⟨g,0,none⟩)] V fun e w'=>e=.returned (.int .i64 (E:Nat))/\TP w0 w' g s 5 a f l):=fun V G=>by
      rw [<-J];exact Hn G Z d1 I C aa
     have M:Hid (ak s a=5/\(ap s a 5).2=E):=⟨C,J⟩;clear C I J
     rotate_left
     have Q:Hid (∀V,Rs w0 V g s a a f l->Ta 59 #[.int .i64 (bk s a)] V fun e w'=>e=.returned (.bool false)/\w'=V):=fun V G=>by
      have F:=dC (bk s a) V (hK.below G.bel).1;rw [show fL (bk s a)=false by rw [eG s a d1];exact RG C] at F;exact F
     have S:Hid (∀V,Ta 60 #[.int .i32 (bk s a)] V fun e w'=>e=.returned (.bool false)/\w'=V):=fun V=>by
      have F:=bT (bk s a) V;rw [eh,Tf d1,T6,show cK (ay s a)=false from RT C] at F;exact F
     have ae:(bk s a == 34)=false:=by rw [Tq];exact fun h=>Rx C ((bL s a 34 (by decide) d1).1 h)
     have al:(bk s a == 39)=false:=by rw [Tq];exact fun h=>R3 C ((bL s a 39 (by decide) d1).1 h)
     have ag:(bk s a == 123)=false:=by rw [Tq];exact fun h=>R6 C ((bL s a 123 (by decide) d1).1 h)
     have ai:Hid (∀V,Ta 63 #[.string (s.extract a s.size),.string ⟨#[47,47]⟩] V fun e w'=>e=.returned (.bool false)/\w'=V):=fun V=>by
      have F:=tP (s.extract a s.size) ⟨#[47,47]⟩ V;rw [kN s _ a (by omega),show pre s a ⟨#[47,47]⟩=false from RC C d1] at F;exact F
     obtain ⟨E,J⟩:∃E,(ap s a 6).2=E:=⟨_,rfl⟩
     have H:Hid (∀V,Rs w0 V g s a a f l->Ta 65 #[.pointer (some ⟨g,0,none⟩)] V fun e w'=>e=.returned (.int .i64 (E:Nat))/\TP w0 w' g s 6 a f l):=fun V G=>by
      rw [<-J];exact EE hK G Z d1 I C aa
     have M:Hid (ak s a=6/\(ap s a 6).2=E):=⟨C,J⟩;clear C I J
     rotate_left
     have Q:Hid (∀V,Rs w0 V g s a a f l->Ta 59 #[.int .i64 (bk s a)] V fun e w'=>e=.returned (.bool false)/\w'=V):=fun V G=>by
      have F:=dC (bk s a) V (hK.below G.bel).1;rw [show fL (bk s a)=false by rw [eG s a d1];exact RF C] at F;exact F
     have S:Hid (∀V,Ta 60 #[.int .i32 (bk s a)] V fun e w'=>e=.returned (.bool false)/\w'=V):=fun V=>by
      have F:=bT (bk s a) V;rw [eh,Tf d1,T6,show cK (ay s a)=false from RR C] at F;exact F
     have ae:(bk s a == 34)=false:=by rw [Tq];exact fun h=>Rv C ((bL s a 34 (by decide) d1).1 h)
     have al:(bk s a == 39)=false:=by rw [Tq];exact fun h=>RZ C ((bL s a 39 (by decide) d1).1 h)
     have ag:(bk s a == 123)=false:=by rw [Tq];exact fun h=>R5 C ((bL s a 123 (by decide) d1).1 h)
     have ai:Hid (∀V,Ta 63 #[.string (s.extract a s.size),.string ⟨#[47,47]⟩] V fun e w'=>e=.returned (.bool true)/\w'=V):=fun V=>by
      have F:=tP (s.extract a s.size) ⟨#[47,47]⟩ V;rw [kN s _ a (by omega),show pre s a ⟨#[47,47]⟩=true from RA C d1] at F;exact F
     obtain ⟨E,J⟩:∃E,(ap s a 7).2=E:=⟨_,rfl⟩
     have H:Hid (∀V,Rs w0 V g s a a f l->Ta 64 #[.pointer (some ⟨g,0,none⟩)] V fun e w'=>e=.returned (.int .i64 (E:Nat))/\TP w0 w' g s 7 a f l):=fun V G=>by
      rw [<-J];exact FZ G Z d1 I C aa
     have M:Hid (ak s a=7/\(ap s a 7).2=E):=⟨C,J⟩;clear C I J
     rotate_left
     have Q:Hid (∀V,Rs w0 V g s a a f l->Ta 59 #[.int .i64 (bk s a)] V fun e w'=>e=.returned (.bool false)/\w'=V):=fun V G=>by
      have F:=dC (bk s a) V (hK.below G.bel).1;rw [show fL (bk s a)=false by rw [eG s a d1];exact RE C] at F;exact F
     have S:Hid (∀V,Ta 60 #[.int .i32 (bk s a)] V fun e w'=>e=.returned (.bool false)/\w'=V):=fun V=>by
      have F:=bT (bk s a) V;rw [eh,Tf d1,T6,show cK (ay s a)=false from RQ C] at F;exact F
     have ae:(bk s a == 34)=false:=by rw [Tq];exact fun h=>Rr C ((bL s a 34 (by decide) d1).1 h)
     have al:(bk s a == 39)=false:=by rw [Tq];exact fun h=>RY C ((bL s a 39 (by decide) d1).1 h)
     have ag:(bk s a == 123)=true:=by rw [TY];exact (bL s a 123 (by decide) d1).2 (Qx C)
     obtain ⟨E,J⟩:∃E,(ap s a 8).2=E:=⟨_,rfl⟩
     have H:Hid (∀V,Rs w0 V g s a a f l->Ta 64 #[.pointer (some ⟨g,0,none⟩)] V fun e w'=>e=.returned (.int .i64 (E:Nat))/\TP w0 w' g s 8 a f l):=fun V G=>by
      rw [<-J];exact DG G Z d1 I C aa
     have M:Hid (ak s a=8/\(ap s a 8).2=E):=⟨C,J⟩;clear C I J
     rotate_left
     all_goals (
      by_cases he:E=0
      case' pos=>subst he
      case' neg=>
       have qe:((E:Int) == 0)=false:=by simp;omega
       have ax:Hid (E≠0):=he;clear he
      all_goals (
       go_wp2_with (first|(go_at_call 56;refine (ah.out _).mono ?_;rintro e w1 ⟨rfl,ac⟩;have O:=Rq.below HR.out ac;have z1:=(HC.out _ _ _ O).2.2)|(go_at_call 58;refine (au.out _ O).mono ?_;rintro e w2 ⟨rfl,hr2⟩;obtain ⟨y0,y1,y2⟩:=HC.out _ _ _ hr2)|(go_at_call 59;refine (Q.out _ hr2).mono ?_;rintro e w3 ⟨rfl,hw⟩;replace hw:=hw.symm;subst hw)|(go_at_call 61;refine (H.out _ hr2).mono ?_;rintro e w5 ⟨rfl,Y⟩)|(go_at_call 60;refine (S.out _).mono ?_;rintro e w4 ⟨rfl,hw⟩;replace hw:=hw.symm;subst hw)|(go_at_call 62;refine (H.out _ hr2).mono ?_;rintro e w5 ⟨rfl,Y⟩))
       try (go_quiet ((first|(go_at_call 63;exact Calls.quiet_of_same (ai.out _))|fail));go_wp2_with (first|(go_at_call 65;refine (H.out _ (Rq.below hr2 (eD _ _))).mono ?_;rintro e w5 ⟨rfl,Y⟩)|(go_at_call 64;refine (H.out _ (Rq.below hr2 (eD _ _))).mono ?_;rintro e w5 ⟨rfl,Y⟩)))
       first
        | (obtain ⟨hj,bg⟩:=HJ.out.tok d1 HN.out.1 HN.out.2 M.out.1 (by decide) M.out.2 Y;go_step3;refine ⟨rfl,⟨_,a,0,_,_,_,_,_,_,_,_,_,_,_,_,_,_,_,_,_,_,_,_,_,_,_,_,_,_,_,_,_,_,_,_,_,_,_,_,_,_,_,_,_,_,_,_,_,_,_,_,_,_,_,_,_,_,_,_,_,_,_,_,_,_,_,_,_,_,_,_,_,_,_,_,_,_,_,_,_,_,_,_,_,_,_,hj,rfl⟩,?_⟩;rw [HX.out,hj.rs.at];have:=hj.asz;omega)
        | (obtain ⟨hj,ba⟩:=HJ.out.bad d1 HN.out.1 HN.out.2 M.out.1 (by decide) (by rw [M.out.2];exact ax.out) Y;simp only [Exit.jump];go_ret;rw [ba,M.out.2];exact ⟨rfl,hj⟩)))
end Go.Proofs.YtcjiapphbpiffaaGreatDoor.Lx
