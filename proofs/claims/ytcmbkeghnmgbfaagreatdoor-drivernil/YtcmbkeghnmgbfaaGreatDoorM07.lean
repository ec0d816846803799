import Derived.Test.YtcmbkeghnmgbfaaGreatDoorM06
set_option linter.all false
set_option maxHeartbeats 4000000
set_option maxRecDepth 100000
namespace Go.Proofs.YtcmbkeghnmgbfaaGreatDoor.Lx
open Go.Proofs.Tryz
open Go.RowKit
variable {p g f k b q:Nat}{s o t:ByteArray}{W w0:World}{l:List Tv}{T0 new:List Tk}{v vt vo vs:Value}{c:Code}
theorem ya {S:Nat->Prop}(h:Lq S w0 W g k p (pL s p) (pC s p) f t o l) (hs:s.size<=2147483647) (ae:p<=q) (hp:bd s p) (hq:bd s q) (hf:f<=2147483647) (P:Int) (O:Nat) (M:O=if P=10 then f+1 else f) :
  Kb 72 #[.pointer (some ⟨g,0,none⟩),.int .i32 P,.string (s.extract p q)] W fun e w'=>e=.returned (.int .i64 0)/\Lq S w0 w' g k q (pL s q) (pC s q) O t o l:=by
 obtain⟨vt,vo,vs,h1,h2⟩:=h;have ah:=ia hq;obtain⟨j1,j2,j3⟩:=lV hp hq ae hs
 have J:Hid (∀V,Kb 30 #[.agg #[.int .i64 p,.int .i64 (pL s p),.int .i64 (pC s p)],.string (s.extract p q)] V fun e w'=>e=.returned (.agg #[.int .i64 q,.int .i64 (pL s q),.int .i64 (pC s q)])/\Kc V w'):=fun V=>by
  have:=ja p (pL s p) (pC s p) (s.extract p q) V (by rw[ag s p q ah];omega) (AC s p);rw[j1,j2,j3]at this;exact this
 obtain⟨L2,ac⟩:∃x,pL s q=x:=⟨_,rfl⟩;obtain⟨C2,hC2⟩:∃x,pC s q=x:=⟨_,rfl⟩;obtain⟨L,hL⟩:∃x,pL s p=x:=⟨_,rfl⟩;obtain⟨C,hC⟩:∃x,pC s p=x:=⟨_,rfl⟩;rw[ac,hC2]at J ⊢;rw[hL,hC]at J h1
 have ad:Hid (∀V F,fH V g false 0 0 0 0 k p L C F vt vo vs->Lz S w0 V g vt vo vs t o l->F=O->(V.cell? ⟨g,6,none⟩=some (.int .i64 p)/\V.cell? ⟨g,7,none⟩=some (.int .i64 L)/\V.cell? ⟨g,8,none⟩=some (.int .i64 C))/\(∀j,V.frozen? ⟨g,j,none⟩=false)/\Lq S w0 (((V.setCell ⟨g,6,none⟩ (.int .i64 q)).setCell ⟨g,7,none⟩ (.int .i64 L2)).setCell ⟨g,8,none⟩ (.int .i64 C2)) g k q L2 C2 O t o l):=fun V F H y2 e=>by
  subst e;refine⟨⟨aa H rfl,aa H rfl,aa H rfl⟩,fun j=>H.frozen j,vt,vo,vs,ab (ab (ab H 6 _) 7 _) 8 _,?_⟩;exact((y2.set H 6 _).set (ab H 6 _) 7 _).set (ab (ab H 6 _) 7 _) 8 _
 obtain⟨c0,c1,c2,c3,c4,c5,c6,c7,c8,c9,c10,ai,aj⟩:=h1.cells
 generalize s.extract p q=u at *
 by_cases G:P=10
 ·rw[Kd G]at M;have q1:(P==10)=true:=by simpa using G
  have ak:IntKind.i64.wrap ((f:Int)+1)=(f:Int)+1:=by rw[Ki];omega
  have z9:=h1.frozen 9;have H:fH (W.setCell ⟨g,9,none⟩ (.int .i64 ((f:Int)+1))) g false 0 0 0 0 k p L C ((f:Int)+1) vt vo vs:=ab h1 9 _;have y2:=h2.set h1 9 (.int .i64 ((f:Int)+1));have HY:Hid (fH (W.setCell ⟨g,9,none⟩ (.int .i64 ((f:Int)+1))) g false 0 0 0 0 k p L C ((f:Int)+1) vt vo vs/\Lz S w0 (W.setCell ⟨g,9,none⟩ (.int .i64 ((f:Int)+1))) g vt vo vs t o l/\(f:Int)+1=O):=⟨H,y2,by omega⟩;clear H y2 h1 h2 ac hC2 hL hC j1 j2 j3 hp hq G M
  go_enter func72,ntmps72
  go_wp2_with(first|(go_at_call 30;refine(J.out _).mono ?_;rintro e w2⟨rfl,I⟩;obtain⟨⟨x6,x7,x8⟩,xf,x9⟩:=ad.out w2 _ (af HY.out.1 I) (HY.out.2.1.below I) HY.out.2.2;have HX:=ku x9;have f6:=xf 6;have f7:=xf 7;have f8:=xf 8;clear x9))
  go_ret
  exact⟨rfl,HX.out⟩
 ·rw[IO G]at M;have q1:(P==10)=false:=by simpa using G
  have HY:Hid (fH W g false 0 0 0 0 k p L C f vt vo vs/\Lz S w0 W g vt vo vs t o l/\(f:Int)=O):=⟨h1,h2,by omega⟩;clear h1 h2 ac hC2 hL hC j1 j2 j3 hp hq G M
  go_enter func72,ntmps72
  go_wp2_with(first|(go_at_call 30;refine(J.out _).mono ?_;rintro e w2⟨rfl,I⟩;obtain⟨⟨x6,x7,x8⟩,xf,x9⟩:=ad.out w2 _ (af HY.out.1 I) (HY.out.2.1.below I) HY.out.2.2;have HX:=ku x9;have f6:=xf 6;have f7:=xf 7;have f8:=xf 8;clear x9))
  go_ret
  exact⟨rfl,HX.out⟩
theorem je.u8 {S:Nat->Prop}(h:je S W v o):∀k,v.ownBlock=some k->∃cs f,W.heap[k]?=some (.cells cs 5 f):=by
 intro k u
 rcases h.1 with⟨rfl,_⟩|⟨b,cap,G,fr,rfl,F,H⟩
 ·cases u
 ·simp only[Value.ownBlock,Ky]at u;subst u;exact⟨_,_,F⟩
theorem fJ.u8 {S:Nat->Prop}(h:fJ S W v t):∀k,v.ownBlock=some k->∃cs f,W.heap[k]?=some (.cells cs 5 f):=by
 intro k u
 rcases h.1.2 with⟨rfl,_⟩|⟨b,cap,G,rfl,_,F,_⟩
 ·cases u
 ·simp only[Value.ownBlock,Ky]at u;subst u;exact⟨_,_,F⟩
theorem Lz.told {S:Nat->Prop}{w':World}{v':Value}{l':List Tv}(h:Lz S w0 W g vt vo vs t o l) {cs:Array Value}(I:W.heap[g]?=some (.cells cs 83 (0,0)))
  (M:Rt w0.heap.size w' v' l') (O:W.grownBy w' vs.ownBlock):w'.heap[g]?=some (.cells cs 83 (0,0))/\Lz S w0 w' g vt vo v' t o l':=by
 have u:=Kp.of_grown O;refine⟨u.blk I (fun e=>h.rs.ne I (by decide) g e.symm rfl),h.kp.step u (fun j hj e=>?_),h.sg,h.nw,h.rt.kp u (fun k F G=>?_),h.ro.kp u (fun k F G=>?_),h.ap,M⟩
 ·have:=h.rs.own j e.symm;omega
 ·obtain⟨H,J,e⟩:=h.rt.u8 k F;exact h.rs.ne e (by decide) k G.symm rfl
 ·obtain⟨H,J,e⟩:=h.ro.u8 k F;exact h.rs.ne e (by decide) k G.symm rfl
theorem Lz.drop {S:Nat->Prop}(h:Lz S w0 W g vt vo vs t o l):Lz S w0 W g (.slice none 0 0) vo vs ByteArray.empty o l:=
 ⟨h.kp,h.sg,h.nw,eY S W rfl,h.ro,(fun q _ e=>by cases e),h.rs⟩
theorem xA {J:Array Oper}{o:Oper}{a:Act}{K:Act->World->Prop}{Q:Exit->Act->World->Prop}{E:Prop}(F:o.guard=none) (s x:Operand)
  (ho:o.op=.call { callee:=.builtin .append,args:=#[s,x],argTypes:=#[44,44] }) (B:Nat) (v:Value) (l:List Tv) (d:Tv) (hs:a.eval s=v) (hr:Rt B W v l)
  (g c:Nat) (hx:a.eval x=.slice (some ⟨g,0,none⟩) 1 c) (hg:W.heap[g]?=some (.cells #[.int .u8 d.k,.string d.t,.int .i64 d.a,.int .i64 d.l,.int .i64 d.c,.int .i64 d.f] 76 (0,0))) (hl:l.length<=2147483647) (O:B<=W.heap.size)
  (h:∀q cap w',Rt B w' (.slice (some ⟨q,0,none⟩) (l.length+1) cap) (l++[d])->Below B W w'->W.grownBy w' v.ownBlock->K (a.put o.dst (.slice (some ⟨q,0,none⟩) (l.length+1) cap)) w') :
  if Region.wanted o (yielded J a.tmps)=true then Oper.wp Tryz.prog o a W K Q else E:=by
 obtain⟨i0,hi,G,H,I⟩:=LJ Tryz.info76;refine NU W F s x 44 ho B 76 i0 _ 6 56 underlying44 hi G H I rfl (by decide) v _ _ hs hr ⟨g,0,none⟩ 1 c (CD [d]) hx (by rw[Dq];rfl) ?_ (Dp [d]) (by omega) (by unfold maxLen;omega) (by omega) O _ rfl ?_
 ·intro j u hu;refine LW hg j u ?_;have e:CD [d]=[.int .u8 d.k,.string d.t,.int .i64 d.a,.int .i64 d.l,.int .i64 d.c,.int .i64 d.f]:=by simp[CD,au,Tv.cs]
  rw[e]at hu
  simpa using hu
 ·intro q cap w' a1 M a3 _;refine h q cap w' ?_ ((gt B W).grown M O hr.own) M;unfold Rt;rw[Kf,Dr];exact a1
theorem tC {S:Nat->Prop}{L C:Int}{U:ByteArray}(h:Lq S w0 W g k b L C f U o l) (kk:Nat) (T:ByteArray) (q:Nat) (G F:Int) (hl:l.length<=2147483647)
  (hA:∀V,Kb 30 #[.agg #[.int .i64 b,.int .i64 L,.int .i64 C],.string U] V fun e w'=>e=.returned (.agg #[.int .i64 q,.int .i64 G,.int .i64 F])/\Below V.heap.size V w')
  (hT:kk=7->∀V,Kb 106 #[.string U,.string ⟨#[32,9,13]⟩] V fun e w'=>e=.returned (.string T)/\Below V.heap.size V w')
  (hC:∀V,Kb 105 #[.string T] V fun e w'=>e=.returned (.string T)/\Below V.heap.size V w') (hn:kk≠7->U=T) :
  Kb 65 #[.pointer (some ⟨g,0,none⟩),.int .u8 kk] W fun e w'=>e=.returned (.tuple #[])/\Lq S w0 w' g 0 q G F 0 ByteArray.empty o (l++[⟨kk,T,b,L,C,f⟩]):=by
 obtain⟨vt,vo,vs,h1,h2⟩:=h;obtain⟨pp,cap,e1,_⟩:=h2.rt.shape;obtain⟨sp,sc,e2,hs1,hs2⟩:=h2.rs.shape;have HA:=ku hA;have HC:=ku hC;have ar:=cZ h2.rt;obtain⟨c0,c1,c2,c3,c4,c5,c6,c7,c8,c9,c10,c11,c12⟩:=h1.cells;have HK:Hid (∀V,Kc W V->fH V g false 0 0 0 0 k b L C f vt vo vs/\Lz S w0 V g vt vo vs U o l):=fun V hb=>⟨af h1 hb,h2.below hb⟩
 have HE:Hid (∀v' w',fH w' g false 0 0 0 0 k b L C f vt vo v'->Lz S w0 w' g vt vo v' U o (l++[⟨kk,T,b,L,C,f⟩])->(∀j,w'.frozen? ⟨g,j,none⟩=false)/\(w'.cell? ⟨g,5,none⟩=some (.int .i64 k)/\w'.cell? ⟨g,6,none⟩=some (.int .i64 b)/\w'.cell? ⟨g,7,none⟩=some (.int .i64 L)/\w'.cell? ⟨g,8,none⟩=some (.int .i64 C)/\w'.cell? ⟨g,9,none⟩=some (.int .i64 f)/\w'.cell? ⟨g,10,none⟩=some vt)/\g<w'.heap.size /\
   (Lq S w0 ((((((w'.setCell ⟨g,5,none⟩ (.int .i64 0)).setCell ⟨g,6,none⟩ (.int .i64 q)).setCell ⟨g,7,none⟩ (.int .i64 G)).setCell ⟨g,8,none⟩ (.int .i64 F)).setCell ⟨g,9,none⟩ (.int .i64 0)).setCell ⟨g,10,none⟩ (.slice none 0 0)) g 0 q G F 0 ByteArray.empty o (l++[⟨kk,T,b,L,C,f⟩]))):=fun v' w' u aw=>by
  refine⟨fun j=>u.frozen j,⟨aa u rfl,aa u rfl,aa u rfl,aa u rfl,aa u rfl,aa u rfl⟩,ai u,?_⟩;have y1:=u;have y2:=aw;have x2:=ab y1 5 (.int .i64 0);have x3:=ab x2 6 (.int .i64 q);have x4:=ab x3 7 (.int .i64 G);have x5:=ab x4 8 (.int .i64 F);have x6:=ab x5 9 (.int .i64 0);exact⟨.slice none 0 0,vo,v',ab x6 10 _,(((((((y2.set y1 5 _).set x2 6 _).set x3 7 _).set x4 8 _).set x5 9 _).set x6 10 _).drop)⟩
 have HG:=ku (ai h1);subst e1 e2;clear h1 h2 hA hC
 go_enter func65,ntmps65
 go_upto_if 18 with(first|(go_at_call 30;refine(HA.out _).mono ?_;rintro e J⟨rfl,ad⟩;have aj:aZ (J.alloc (.cells #[.int .i64 q,.int .i64 G,.int .i64 F] 33)) J.heap.size q G F:=aZ.new J q G F;have ac:Below W.heap.size W (J.alloc (.cells #[.int .i64 q,.int .i64 G,.int .i64 F] 33)):=ad.alloc ad.size _))
 go_cut [4]from 6 (fun t wx=>t=.string T/\Hid (Below W.heap.size W wx/\aZ wx J.heap.size q G F))
 case first=>
  by_cases hk:kk=7
  ·have q1:((kk:Int)==7)=true:=by simp;omega
   have HT:=ku (hT hk);clear hT hn hk
   go_wp2_with(first|(go_at_call 106;refine(HT.out _).mono ?_;rintro e w2⟨rfl,al⟩)|(go_at_call 105;refine(HC.out _).mono ?_;rintro e I⟨rfl,ah⟩))
   go_meet
   have am:=al.trans (ah.mono al.size);exact⟨rfl,ac.trans (am.mono ac.size),aj.below am⟩
  ·have q1:((kk:Int)==7)=false:=by simp;omega
   have HN:=ku (hn hk);clear hT hn hk
   go_wp2_with fail
   go_meet
   exact⟨by rw[HN.out],ac,aj⟩
 case rest=>
  obtain⟨rfl,HW⟩:=hcut;obtain⟨wA,eA⟩:∃wA,wA=wc:=⟨wc,rfl⟩;subst eA;obtain⟨hbc,hkc⟩:=HW.out;have ag:=ku fun V (hb:Kc wA V)=>HK.out V (hbc.trans (hb.mono hbc.size))
  obtain⟨y1,y2⟩:=ag.out _ (gt _ _);have ba:=ai y1;have av:=y2.kp.size;have yr:=y2.rs;obtain⟨c0,c1,c2,c3,c4,c5,c6,c7,c8,c9,c10,c11,c12⟩:=y1.cells;have az:g<J.heap.size:=Kl HG.out ad.size;have au:g≠J.heap.size:=by omega
  have aq:=ku au
  have ak:Hid (∀I qq cc,Rt w0.heap.size I (.slice (some ⟨qq,0,none⟩) (l.length+1) cc) (l++[⟨kk,T,b,L,C,f⟩])->(wA.drew.alloc (.cells #[.int .u8 kk,.string T,.int .i64 b,.int .i64 L,.int .i64 C,.int .i64 f] 76)).grownBy I (Value.slice sp l.length sc).ownBlock->fH I g false 0 0 0 0 k b L C f (.slice pp U.size cap) vo (.slice sp l.length sc)/\Lz S w0 I g (.slice pp U.size cap) vo (.slice (some ⟨qq,0,none⟩) (l.length+1) cc) U o (l++[⟨kk,T,b,L,C,f⟩])/\aZ I J.heap.size q G F):=fun I qq cc ae M=>by
   have an:Below wA.heap.size wA (wA.drew.alloc (.cells #[.int .u8 kk,.string T,.int .i64 b,.int .i64 L,.int .i64 C,.int .i64 f] 76)):=(gt _ _).drew.alloc (ge _) _;obtain⟨v1,v2⟩:=ag.out _ an;obtain⟨H,O⟩:=v2.told v1 ae M;have ap:=hkc.below an;exact⟨H,O,(Kp.of_grown M).blk ap (fun e=>v2.rs.ne ap (by decide) _ e.symm rfl)⟩
  clear HK ad aj ac ar y1 y2 hT hn HC HA HG
  go_wp2_with fail
  go_cut []from 6 (fun wx=>Hid (∃v',fH wx g false 0 0 0 0 k b L C f (.slice pp U.size cap) vo v'/\Lz S w0 wx g (.slice pp U.size cap) vo v' U o (l++[⟨kk,T,b,L,C,f⟩])/\aZ wx J.heap.size q G F))
  case first=>
   go_region_law (first|(refine xA (by rfl) _ _ (by rfl) w0.heap.size (.slice sp l.length sc) l ⟨kk,T,b,L,C,f⟩ (by rfl) (yr.below ((gt _ _).drew.alloc (ge _) _)) wA.heap.size 1 (by rfl) (World.alloc_heap_new _ _) hl (by show _<=(wA.drew.alloc _).heap.size;rw[Eq];exact Nat.le_succ_of_le av) ?_;intro qq cc I ae ah M;obtain⟨H,O,v5⟩:=ak.out _ _ _ ae M;have ay:=H.frozen 12;have bb:I.cell? ⟨g,12,none⟩=some (.slice sp l.length sc):=aa H rfl;have HV:Hid (fH I g false 0 0 0 0 k b L C f (.slice pp U.size cap) vo (.slice sp l.length sc)/\Lz S w0 I g (.slice pp U.size cap) vo (.slice (some ⟨qq,0,none⟩) (l.length+1) cc) U o (l++[⟨kk,T,b,L,C,f⟩])/\aZ I J.heap.size q G F):=⟨H,O,v5⟩;clear H O v5 ae ah M))
   all_goals(
    go_wp2_with fail
    go_meet
    obtain⟨H,O,v5⟩:=HV.out;exact⟨_,ab H 12 _,O.set H 12 _,(Kp.set _ g 12 _).blk v5 (fun e=>aq.out e.symm)⟩)
  case rest=>
   obtain⟨v',H,O,v5⟩:=hcut.out;obtain⟨xf,⟨x5,x6,x7,x8,x9,x10⟩,xlt,x13⟩:=HE.out _ _ H O;have m0:=v5.cell0;have m1:=v5.cell1;have m2:=v5.cell2;have f5:=xf 5;have f6:=xf 6;have f7:=xf 7;have f8:=xf 8;have f9:=xf 9;have ax:=xf 10;have HX:=ku x13;clear x13 H O v5 hcut xf c0 c1 c2 c3 c4 c5 c6 c7 c8 c9 c10 c11 c12 ak ag yr hkc hbc
   go_wp2_with fail
   go_region_law (fail)
   all_goals(
    go_wp2_with fail
    go_end0
    exact⟨rfl,HX.out.below (gt _ _).drew⟩)
theorem na {S:Nat->Prop}(h:Lq S w0 W g k b (pL s b) (pC s b) f (s.extract b p) o l) (kk:Nat) (O:s.size<=2147483647) (G:b<=p) (M:bd s b) (J:bd s p) (hl:l.length<=2147483647) (H:kk=7->b<p/\bJ (av s b)=false) :
  Kb 65 #[.pointer (some ⟨g,0,none⟩),.int .u8 kk] W fun e w'=>e=.returned (.tuple #[])/\Lq S w0 w' g 0 p (pL s p) (pC s p) 0 ByteArray.empty o (l++[tv s ⟨kk,b,if kk=7 then aV s p else p,f⟩]):=by
 have F:=ia J;obtain⟨j1,j2,j3⟩:=lV M J G O;have hz:=ag s b p F;have ht:=eh s p;have aa:=ag s b (aV s p) (by omega)
 have e:tv s ⟨kk,b,if kk=7 then aV s p else p,f⟩=⟨kk,if kk=7 then s.extract b (aV s p)else s.extract b p,b,pL s b,pC s b,f⟩:=by
  unfold tv
  by_cases e:kk=7
  ·simp only[Kd e]
  ·simp only[IO e]
 rw[e];refine tC h kk _ p (pL s p) (pC s p) hl (fun V=>?_) (fun u V=>?_) (fun V=>?_) (fun u=>by rw[IO u])
 ·have:=ja b (pL s b) (pC s b) (s.extract b p) V (by omega) (AC s b);rw[j1,j2,j3]at this;exact this
 ·have I:=zj (s.extract b p) V (by omega);rw[Da s b p (H u).1 F (H u).2]at I;rw[Kd u];exact I
 ·refine yK _ V ?_
  split<;>omega
theorem oJ {S:Nat->Prop}(h:Lq S w0 W g k b (pL s b) (pC s b) f (s.extract b p) o l) (kk:Nat) (hs:s.size<=2147483647) (aa:b<=p) (ac:p<=q) (ad:q<=p+4) (ab:p<=b+65535) (hb:bd s b) (J:bd s q) (hl:l.length<=2147483647) (I:kk≠7) (r:Bool) (M:r=decide (65535<q-b)) :
  Kb 103 #[.pointer (some ⟨g,0,none⟩),.string (s.extract p q),.int .u8 kk] W fun e w'=>e=.returned (.int .i64 (if r=true then 103 else 0))/\(if r=true then Lq S w0 w' g k b (pL s b) (pC s b) f (s.extract b p) o l else Lq S w0 w' g 0 q (pL s q) (pC s q) 0 ByteArray.empty o (l++[tv s ⟨kk,b,q,f⟩])):=by
 have u:=ia J;have hz:=ag s b p (by omega);have ae:=ag s p q u
 have H:s.extract b p++s.extract p q=s.extract b q:=by
  have G:=ag s b q u;refine aU _ _ (by rw[ax];omega) (fun j hj=>?_);rw[ax]at hj;rw[bQ,aB s b q j (by omega)]
  split
  ·rw[aB s b p j (by omega)]
  ·rw[aB s p q _ (by omega)];congr 1;omega
 have F:Hid (Kb 64 #[.pointer (some ⟨g,0,none⟩),.string (s.extract p q)] W fun e w'=>e=.returned (.int .i64 (if r=true then 103 else 0))/\Lq S w0 w' g k b (pL s b) (pC s b) f (if r=true then s.extract b p else s.extract b q) o l):=by
  have:=ra h (s.extract p q) (by omega) (by omega) r (by rw[M,KR];omega);rw[H]at this;exact this
 have O:Hid (∀V,Lq S w0 V g k b (pL s b) (pC s b) f (s.extract b q) o l->Kb 65 #[.pointer (some ⟨g,0,none⟩),.int .u8 kk] V fun e w'=>e=.returned (.tuple #[])/\Lq S w0 w' g 0 q (pL s q) (pC s q) 0 ByteArray.empty o (l++[tv s ⟨kk,b,q,f⟩])):=fun V hV=>by
  have:=na hV kk hs (by omega) hb J hl (fun e=>absurd e I);rw[IO I]at this;exact this
 clear h M H;cases r
 ·simp only[KE,LP]at F ⊢
  go_enter func103,ntmps103
  go_wp2_with(first|(go_at_call 64;refine F.out.mono ?_;rintro e w1⟨rfl,G⟩)|(go_at_call 65;refine(O.out _ G).mono ?_;rintro e w2⟨rfl,h2⟩))
  go_ret
  exact⟨rfl,h2⟩
 ·simp only[MG]at F ⊢
  go_enter func103,ntmps103
  go_wp2_with(first|(go_at_call 64;refine F.out.mono ?_;rintro e w1⟨rfl,G⟩))
  go_ret
  exact⟨rfl,G⟩
theorem zO (hp:p<s.size):(sg s p).size≠0↔∃x∈ba,av x 0=av s p:=by
 refine⟨kd,?_⟩;rintro⟨x,O,hy⟩;obtain⟨y,y1,y2,y3⟩:=kT x O
 have F:pre s p y=true:=by
  unfold pre;refine Ku ⟨by omega,?_⟩;have hz:=ag s p (p+y.size) (by omega);refine aU _ _ (by omega) (fun j M=>?_);rw[hz]at M;obtain rfl:j=0:=by omega
  rw[aB s p _ 0 (by omega),K0,y3,hy]
 have J:(ba.find? (pre s p)).isSome=true:=Ms.2 ⟨_,y1,F⟩;obtain⟨u,H⟩:=LO.1 J;have G:=Li H;unfold sg;rw[H];show u.size≠0
 rcases dF u G with I|⟨I,_⟩<;>omega
theorem Gz (I:p<s.size):((sg (Utf8.encode (dp s p:Int)) 0).size≠0↔(sg s p).size≠0)/\0<(Utf8.encode (dp s p:Int)).size:=by
 have G:=EN _ (F0 s p);refine⟨?_,G⟩;rw[zO G,zO I,Hh _ (F0 s p)]
 by_cases h:dp s p<128
 ·rw[Kd h,t8 s p h]
 ·rw[IO h];have u:¬av s p<128:=fun u=>h (by rw[(bH s p u).2.1];exact u)
  constructor
  ·rintro⟨x,F,H⟩;have:=(fw x F).2.2.2.2.2.2.1;rw[H]at this
   exfalso
   revert this
   repeat' split
   all_goals(intro _;omega)
  ·rintro⟨x,F,H⟩;have:=(fw x F).2.2.2.2.2.2.1;omega
theorem ck (s:ByteArray) (p:Nat) (hp:p<s.size) (W:World) (hK:fg W) :
  Kb 73 #[.int .i32 (dp s p)] W fun e w'=>e=.returned (.int .i64 (nF s p))/\Kc W w':=by
 have hd:=bL s p;have ai:IntKind.i64.wrap (dp s p:Int)=dp s p:=by rw[Ki];omega
 obtain⟨se,af⟩:=Gz hp
 have HL:Hid (Kb 110 #[.int .i64 (dp s p)] W fun e w'=>e=.returned (.bool (gd s p&&ng (dp s p)))/\w'=W):=by
  have:=tL (dp s p) W hK.1;rw[yY]at this;exact this
 have HD:Hid (Kb 67 #[.int .i32 (dp s p)] W fun e w'=>e=.returned (.bool (dh (av s p)))/\w'=W):=by
  have:=iI (dp s p) W;rw[uw]at this;exact this
 have HS:=ku fun V (hV:lW V)=>uO _ 0 V hV af
 have M:=co s p 34 (by decide);have O:=co s p 39 (by decide);have F:=co s p 123 (by decide);have HB:Hid (nF s p=if(gd s p&&ng (dp s p))=true then 1 else if dh (av s p)=true then 2 else if av s p=34 then 6 else if av s p=39 then 7 else if av s p=123 then 5 else if(sg s p).size≠0 then 3 else 0):=rfl;have HT:=ku hK.2.2;have HW:Hid (Kc W W):=gt _ _
 generalize(gd s p&&ng (dp s p))=r1 at *
 generalize dh (av s p)=r2 at *
 generalize nF s p=B at *
 generalize av s p=c at *
 generalize(sg s p).size=z at *
 obtain⟨E,hE⟩:∃E,Utf8.encode (dp s p:Int)=E:=⟨_,rfl⟩;rw[hE]at HS se af;obtain⟨G,hG⟩:∃G,sg E 0=G:=⟨_,rfl⟩;rw[hG]at HS se;clear hK hG
 generalize(dp s p:Int)=d at *
 cases r1
 ·cases r2
  ·by_cases I:c=34
   ·have ac:d=34:=M.2 I;have HR:Hid (B=6):=by show _=_;rw[HB.out];simp[I]
    subst ac;clear HB M O F I hE
    go_enter func73,ntmps73
    go_wp2_with(first|(go_at_call 110;refine HL.out.mono ?_;rintro e w1⟨rfl,u⟩;replace u:=u.symm;subst u)|(go_at_call 67;refine HD.out.mono ?_;rintro e w1⟨rfl,u⟩;replace u:=u.symm;subst u))
    go_ret
    exact⟨by rw[HR.out];rfl,HW.out⟩
   ·have ac:(d==34)=false:=by rw[Kk];exact fun h=>I (M.1 h)
    by_cases J:c=39
    ·have ae:d=39:=O.2 J;have HR:Hid (B=7):=by show _=_;rw[HB.out];simp[J]
     subst ae;clear HB M O F I J hE ac
     go_enter func73,ntmps73
     go_wp2_with(first|(go_at_call 110;refine HL.out.mono ?_;rintro e w1⟨rfl,u⟩;replace u:=u.symm;subst u)|(go_at_call 67;refine HD.out.mono ?_;rintro e w1⟨rfl,u⟩;replace u:=u.symm;subst u))
     go_ret
     exact⟨by rw[HR.out];rfl,HW.out⟩
    ·have ae:(d==39)=false:=by rw[Kk];exact fun h=>J (O.1 h)
     by_cases H:c=123
     ·have ad:d=123:=F.2 H;have HR:Hid (B=5):=by show _=_;rw[HB.out];simp[H]
      subst ad;clear HB M O F I J H hE ac ae
      go_enter func73,ntmps73
      go_wp2_with(first|(go_at_call 110;refine HL.out.mono ?_;rintro e w1⟨rfl,u⟩;replace u:=u.symm;subst u)|(go_at_call 67;refine HD.out.mono ?_;rintro e w1⟨rfl,u⟩;replace u:=u.symm;subst u))
      go_ret
      exact⟨by rw[HR.out];rfl,HW.out⟩
     ·have ad:(d==123)=false:=by rw[Kk];exact fun h=>H (F.1 h)
      have ah:∀V,(convert 21 9 (.int .i32 d)).run Tryz.prog V=.ok (.string E) V:=fun V=>by rw[<-hE];simp[convert,NL underlying21,NL underlying9,Conv.intToString]
      by_cases hz:z=0
      ·have HR:Hid (B=0):=by show _=_;rw[HB.out];simp[I,J,H,hz]
       have aa:G.size=0:=KG fun h=>(se.1 h) hz
       have ab:G=ByteArray.empty:=aU _ _ (by rw[aa];rfl) (fun j hj=>by omega);subst ab;clear HB M O F I J H hE se hz aa
       go_enter func73,ntmps73
       go_wp2_with(first|(go_at_call 110;refine HL.out.mono ?_;rintro e w1⟨rfl,u⟩;replace u:=u.symm;subst u)|(go_at_call 67;refine HD.out.mono ?_;rintro e w1⟨rfl,u⟩;replace u:=u.symm;subst u)|(go_at_call 108;refine(HS.out _ HT.out).mono ?_;rintro e w3⟨rfl,hb3⟩))
       go_ret
       exact⟨by rw[HR.out];rfl,hb3⟩
      ·have HR:Hid (B=3):=by show _=_;rw[HB.out];simp[I,J,H,hz]
       have aa:G.size≠0:=se.2 hz
       have ab:G.toList.isEmpty=false:=by
        rw[j8];cases e:G.data.toList with
        |nil=>exact absurd (show G.data.size=0 by rw[<-KY,e];rfl) aa
        |cons x y=>rfl
       have ag:(G.toList==[])=false:=by
        cases e:G.toList with
        |nil=>rw[e]at ab;cases ab
        |cons x y=>rfl
       clear HB M O F I J H hE se hz aa
       go_enter func73,ntmps73
       go_wp2_with(first|(go_at_call 110;refine HL.out.mono ?_;rintro e w1⟨rfl,u⟩;replace u:=u.symm;subst u)|(go_at_call 67;refine HD.out.mono ?_;rintro e w1⟨rfl,u⟩;replace u:=u.symm;subst u)|(go_at_call 108;refine(HS.out _ HT.out).mono ?_;rintro e w3⟨rfl,hb3⟩))
       go_ret
       exact⟨by rw[HR.out];rfl,hb3⟩
  ·have HR:Hid (B=2):=by show _=_;rw[HB.out];simp
   clear HB M O F hE
   go_enter func73,ntmps73
   go_wp2_with(first|(go_at_call 110;refine HL.out.mono ?_;rintro e w1⟨rfl,u⟩;replace u:=u.symm;subst u)|(go_at_call 67;refine HD.out.mono ?_;rintro e w1⟨rfl,u⟩;replace u:=u.symm;subst u))
   go_ret
   exact⟨by rw[HR.out];rfl,HW.out⟩
 ·have HR:Hid (B=1):=by show _=_;rw[HB.out];simp
  clear HB M O F hE
  go_enter func73,ntmps73
  go_wp2_with(first|(go_at_call 110;refine HL.out.mono ?_;rintro e w1⟨rfl,u⟩;replace u:=u.symm;subst u))
  go_ret
  exact⟨by rw[HR.out];rfl,HW.out⟩
def xq (s:ByteArray) (p:Nat):Nat:=if p<s.size then p+dw s p else p
def xp (s:ByteArray) (p:Nat):Int:=if p<s.size then(dp s p:Int)else -1
theorem cr (h:p<s.size):xq s p=p+dw s p:=Kd h
theorem dO (h:s.size<=p):xq s p=p:=IO (by omega)
theorem aL (h:p<s.size):xp s p=dp s p:=Kd h
theorem fc (h:s.size<=p):xp s p=-1:=IO (by omega)
theorem pF (h:bd s p):bd s (xq s p)/\p<=xq s p/\xq s p<=p+4/\xq s p<=s.size:=by
 by_cases u:p<s.size
 ·rw[cr u];have:=aM s p u;exact⟨ph h u,by omega,by omega,by omega⟩
 ·rw[dO (by omega)];have:=ia h;exact⟨h,by omega,by omega,by omega⟩
structure aR (S:Nat->Prop) (w0 W:World) (g:Nat) (s o:ByteArray) (T0:List Tk) (p k b f:Nat) (new:List Tk):Prop where
 lq:Lq S w0 W g k b (pL s b) (pC s b) f (s.extract b p) o (new.map (tv s))
 told:cB s (T0++new) b f
 ms:MS s b p k
 pd:bd s p
def aT (S:Nat->Prop) (w0:World) (g:Nat) (s o:ByteArray) (T0:List Tk) (p:Nat) (e:Ending) (w':World):Prop:=
 ∃(E k b f p':Nat) (new:List Tk),e=.returned (.int .i64 E)/\Lq S w0 w' g k b (pL s b) (pC s b) f (s.extract b p') o (new.map (tv s))/\bd s b/\bd s p'/\b<=p' /\
 ((E=0/\p<s.size/\p'=p+dw s p/\cB s (T0++new) b f/\MS s b p' k) \/
  (E=0/\s.size<=p/\scn s=(T0++new,0,0)) \/
  (E≠0/\∃A,scn s=(T0++new,E,A)/\(p<s.size->¬fI s E A)/\A=if E=102 then p' else b))
theorem aR.facts {S:Nat->Prop}(h:aR S w0 W g s o T0 p k b f new):b<=p/\p<=b+65535/\bd s b/\p<=s.size/\f<=s.size/\new.length<=s.size:=by
 have u:=h.ms.len;have F:=h.told.bds;have G:=ia h.pd;have H:=F.2.2.1;rw[Kf]at H;exact⟨u.1,u.2,F.1,G,by omega,by omega⟩
theorem aR.below {S:Nat->Prop}{W':World}(h:aR S w0 W g s o T0 p k b f new) (u:Below W.heap.size W W'):aR S w0 W' g s o T0 p k b f new:=⟨h.lq.below u,h.told,h.ms,h.pd⟩
theorem aT.bad {S:Nat->Prop}{w0 W w':World}{g:Nat}{s o:ByteArray}{T0:List Tk}{p k b f:Nat}{new:List Tk}(h:aR S w0 W g s o T0 p k b f new) {k':Nat}(M:Lq S w0 w' g k' b (pL s b) (pC s b) f (s.extract b p) o (new.map (tv s))) {kk E A:Nat}(G:ak s b=kk) (F:kk≠0) (H:aC s b kk=(A,E)) (u:E≠0) (J:b<s.size) (I:A=if E=102 then p else b) (O:p<s.size->¬fI s E A) :
  aT S w0 g s o T0 p (.returned (.int .i64 E)) w':=
 ⟨E,k',b,f,p,new,rfl,M,h.facts.2.2.1,h.pd,h.facts.1,.inr (.inr ⟨u,A,fY h.told J G F H u,O,I⟩)⟩
theorem oU (s:ByteArray) (b p q:Nat) (G:b<=p) (H:p<=q) (u:q<=s.size):s.extract b p++s.extract p q=s.extract b q:=by
 have M:=ag s b p (by omega);have I:=ag s p q u;have J:=ag s b q u;refine aU _ _ (by rw[ax];omega) (fun j F=>?_);rw[ax]at F;rw[bQ,aB s b q j (by omega)]
 split
 ·rw[aB s b p j (by omega)]
 ·rw[aB s p q _ (by omega)];congr 1;omega
theorem dZ {S:Nat->Prop}{w0 W V:World}{g:Nat}{s o:ByteArray}{T0:List Tk}{p k b f:Nat}{new:List Tk}(h:aR S w0 W g s o T0 p k b f new) {k' kk:Nat}(hV:Lq S w0 V g k' b (pL s b) (pC s b) f (s.extract b p) o (new.map (tv s))) (G:p<s.size) (hb:b<s.size) (hs:s.size<=2147483647) (h0:kk≠0)
  (hf:65535<p+dw s p-b->ak s b=kk/\aC s b kk=(b,103)) (hm:¬65535<p+dw s p-b->MS s b (p+dw s p) k') :
  Kb 64 #[.pointer (some ⟨g,0,none⟩),.string (s.extract p (xq s p))] V fun e w'=>aT S w0 g s o T0 p e w':=by
 obtain⟨J,f2,M,O,f5,f6⟩:=h.facts;obtain⟨q1,q2,q3,q4⟩:=pF h.pd;have hz:=ag s b p O;have aa:=ag s p (xq s p) q4;have I:=oU s b p (xq s p) J q2 q4;have H:=cr G;refine(ra hV (s.extract p (xq s p)) (by omega) (by omega) _ rfl).mono ?_;rintro e w'⟨rfl,hq⟩
 by_cases u:65535<p+dw s p-b
 ·have F:decide (65535<(s.extract b p).size+(s.extract p (xq s p)).size)=true:=Ku (by omega);rw[F]at hq ⊢;simp only[MG]at hq ⊢;obtain⟨g1,g2⟩:=hf u;exact aT.bad (E:=103) h hq g1 h0 g2 (by decide) hb rfl (fun _=>cG (by decide))
 ·have F:decide (65535<(s.extract b p).size+(s.extract p (xq s p)).size)=false:=Kr (by omega);rw[F]at hq ⊢;simp only[KE,LP]at hq ⊢;rw[I]at hq;refine⟨0,k',b,f,xq s p,new,rfl,hq,M,q1,by omega,.inl ⟨rfl,G,H,h.told,?_⟩⟩;rw[H];exact hm u
theorem ls {S:Nat->Prop}{w0 W V:World}{g:Nat}{s o:ByteArray}{T0:List Tk}{p k b f:Nat}{new:List Tk}(h:aR S w0 W g s o T0 p k b f new) {k' kk:Nat}(hV:Lq S w0 V g k' b (pL s b) (pC s b) f (s.extract b p) o (new.map (tv s))) (J:p<s.size) (I:b<s.size) (hs:s.size<=2147483647) (hk:kk=4\/kk=5\/kk=8)
  (hf:65535<p+dw s p-b->ak s b=kk/\aC s b kk=(b,103)) (hm:¬65535<p+dw s p-b->ak s b=kk/\aC s b kk=(p+dw s p,0)) :
  Kb 103 #[.pointer (some ⟨g,0,none⟩),.string (s.extract p (xq s p)),.int .u8 kk] V fun e w'=>aT S w0 g s o T0 p e w':=by
 obtain⟨f1,f2,f3,f4,f5,f6⟩:=h.facts;obtain⟨q1,q2,q3,q4⟩:=pF h.pd;have hx:=cr J;refine(oJ hV kk (by omega) f1 q2 q3 f2 f3 q1 (by rw[Lj];omega) (by omega) _ rfl).mono ?_;rintro e w'⟨rfl,hq⟩
 by_cases u:65535<p+dw s p-b
 ·have H:decide (65535<xq s p-b)=true:=Ku (by omega);rw[H]at hq ⊢;simp only[MG]at hq ⊢;obtain⟨F,G⟩:=hf u;exact aT.bad (E:=103) h hq F (by omega) G (by decide) I rfl (fun _=>cG (by decide))
 ·have H:decide (65535<xq s p-b)=false:=Kr (by omega);rw[H]at hq ⊢;simp only[KE,LP]at hq ⊢;obtain⟨F,G⟩:=hm u;have ht:=(fp h.told I F (by omega) G).1 (.inr hk);have M:bh s kk b (p+dw s p) f=⟨kk,b,p+dw s p,f⟩:=by unfold bh;rw[IO (by omega),IO (by omega)]
  rw[M,Ks]at ht;rw[hx]at hq q1;refine⟨0,0,p+dw s p,0,p+dw s p,new++[⟨kk,b,p+dw s p,f⟩],rfl,?_,q1,q1,ge _,.inl ⟨rfl,J,rfl,ht,.none rfl⟩⟩
  have O:s.extract (p+dw s p) (p+dw s p)=ByteArray.empty:=by
   have:=ag s (p+dw s p) (p+dw s p) (by omega);exact aU _ _ (by rw[this];show _-_=0;omega) (fun j hj=>by omega)
  rw[O,Lf];exact hq
theorem cV (V:World) (r:Bool) (F:r=true↔(s.size<=p\/av s p=10)) :
  Kb 70 #[.int .i32 (xp s p)] V fun e w'=>e=.returned (.bool r)/\w'=V:=by
 have h:=ml (xp s p) V
 have e:(decide (xp s p=10)||decide (xp s p=-1))=r:=by
  rw[KS,F,MI,KJ,KJ]
  by_cases u:p<s.size
  ·rw[aL u];have:=co s p 10 (by decide);constructor
   ·rintro(h|h)
    ·exact .inr (this.1 h)
    ·omega
   ·rintro(h|h)
    ·omega
    ·exact .inl (this.2 h)
  ·rw[fc (by omega)];constructor
   ·intro _;exact .inl (by omega)
   ·intro _;exact .inr rfl
 rw[e]at h;exact h
theorem qU {S:Nat->Prop}{V:World}(I:Lq S w0 V g k b (pL s b) (pC s b) f (s.extract b p) o l) (M:b<=p) (u:p<s.size) (hs:s.size<=2147483647) (r:Bool) (J:r=true↔65535<p+dw s p-b) :
  Kb 101 #[.pointer (some ⟨g,0,none⟩),.string (s.extract p (xq s p))] V fun e w'=>e=.returned (.bool r)/\w'=V:=by
 obtain⟨vt,vo,vs,G,H⟩:=I;obtain⟨pp,cap,e1,_⟩:=H.rt.shape;have hd:=(aM s p u).2.2;have hz:=ag s b p (by omega);have F:=ag s p (xq s p) (by rw[cr u];exact hd);have O:=(aM s p u).2.1;have aa:=cr u;have:=np G pp _ cap e1 (s.extract p (xq s p)) (by omega) (by omega)
 have e:decide (65535<(s.extract b p).size+(s.extract p (xq s p)).size)=r:=by
  rw[KS,KJ,J];rw[cr u]at F;rw[cr u];omega
 rw[e]at this;exact this
theorem kr (u:p<s.size) (V:World) (r:Bool) (F:r=eI s p) :
  Kb 102 #[.int .i32 (xp s p)] V fun e w'=>e=.returned (.bool r)/\w'=V:=by
 have:=lu (xp s p) V;rw[aL u,Iv,<-F]at this;rw[aL u];exact this
theorem oG {S:Nat->Prop}(h:aR S w0 W g s o T0 p 6 b f new) (hs:s.size<=2147483647) :
  Kb 62 #[.pointer (some ⟨g,0,none⟩),.int .i32 (xp s p),.string (s.extract p (xq s p))] W fun e w'=>aT S w0 g s o T0 p e w':=by
 obtain⟨f1,f2,f3,f4,f5,f6⟩:=h.facts
 have ac:b<s.size:=by
  cases h.ms with
  |text h1 _ _=>omega
 have c5:W.cell? ⟨g,5,none⟩=some (.int .i64 6):=by
  obtain⟨vt,vo,vs,h1,h2⟩:=h.lq;exact aa h1 rfl
 by_cases hE:s.size<=p\/av s p=10
 ·have J:=ku (cV W true ⟨fun _=>hE,fun _=>rfl⟩)
  have HF:Hid (aT S w0 g s o T0 p (.returned (.int .i64 101)) W):=by
   obtain⟨a1,a2,a3,_⟩:=mM h.ms f4 (fun hx=>hE.resolve_left (by omega));exact aT.bad (E:=101) h h.lq a1 (by decide) a2 (by decide) ac rfl a3
  clear h hE
  go_enter func62,ntmps62
  go_wp2_with fail
  go_step3
  go_wp2_with(first|(go_at_call 70;refine J.out.mono ?_;rintro e G⟨rfl,u⟩;replace u:=u.symm;subst u))
  go_ret
  exact HF.out
 ·have O:p<s.size:=by omega
  have H:av s p≠10:=fun e=>hE (.inr e)
  have J:=ku (cV W false ⟨fun h=>(by cases h),fun h=>absurd h hE⟩)
  by_cases F:65535<p+dw s p-b
  ·have ab:=ku (qU h.lq f1 O (by omega) true ⟨fun _=>F,fun _=>rfl⟩)
   have HF:Hid (aT S w0 g s o T0 p (.returned (.int .i64 103)) W):=by
    obtain⟨a1,a2⟩:=wM h.ms O H F;exact aT.bad (E:=103) h h.lq a1 (by decide) a2 (by decide) ac rfl (fun _=>cG (by decide))
   clear h hE H F
   go_enter func62,ntmps62
   go_wp2_with fail
   go_step3
   go_wp2_with(first|(go_at_call 70;refine J.out.mono ?_;rintro e G⟨rfl,u⟩;replace u:=u.symm;subst u)|(go_at_call 101;refine ab.out.mono ?_;rintro e G⟨rfl,u⟩;replace u:=u.symm;subst u))
   go_ret
   exact HF.out
  ·have ab:=ku (qU h.lq f1 O (by omega) false ⟨fun h=>(by cases h),fun h=>absurd h F⟩)
   by_cases M:eI s p=true
   ·have ad:=ku (kr O W true M.symm)
    have HF:Hid (aT S w0 g s o T0 p (.returned (.int .i64 102)) W):=by
     obtain⟨a1,a2⟩:=zw h.ms O H F M;exact aT.bad (E:=102) h h.lq a1 (by decide) a2 (by decide) ac rfl (fun _=>cG (by decide))
    clear h hE H F M
    go_enter func62,ntmps62
    go_wp2_with fail
    go_step3
    go_wp2_with(first|(go_at_call 70;refine J.out.mono ?_;rintro e G⟨rfl,u⟩;replace u:=u.symm;subst u)|(go_at_call 101;refine ab.out.mono ?_;rintro e G⟨rfl,u⟩;replace u:=u.symm;subst u)|(go_at_call 102;refine ad.out.mono ?_;rintro e G⟨rfl,u⟩;replace u:=u.symm;subst u))
    go_ret
    exact HF.out
   ·have I:eI s p=false:=by simpa using M
    have ad:=ku (kr O W false I.symm)
    by_cases hq:av s p=34
    ·have ag:(xp s p==34)=true:=by rw[LM,aL O];exact(co s p 34 (by decide)).2 hq
     have af:Hid (Kb 103 #[.pointer (some ⟨g,0,none⟩),.string (s.extract p (xq s p)),.int .u8 4] W fun e w'=>aT S w0 g s o T0 p e w'):=
      ls (kk:=4) h h.lq O ac hs (.inl rfl) (fun hx=>absurd hx F) (fun _=>wN h.ms O hq F)
     clear h hE H F M I hq
     go_enter func62,ntmps62
     go_wp2_with fail
     go_step3
     go_wp2_with(first|(go_at_call 70;refine J.out.mono ?_;rintro e G⟨rfl,u⟩;replace u:=u.symm;subst u)|(go_at_call 101;refine ab.out.mono ?_;rintro e G⟨rfl,u⟩;replace u:=u.symm;subst u)|(go_at_call 102;refine ad.out.mono ?_;rintro e G⟨rfl,u⟩;replace u:=u.symm;subst u)|(go_at_call 103;refine af.out.mono ?_;intro e G hz;obtain⟨E,k',b',f',p',new',rfl,hz'⟩:=hz;have HF:Hid (aT S w0 g s o T0 p (.returned (.int .i64 E)) G):=⟨E,k',b',f',p',new',rfl,hz'⟩;clear hz'))
     go_ret
     exact HF.out
    ·have ag:(xp s p==34)=false:=by rw[Kk,aL O];exact fun e=>hq ((co s p 34 (by decide)).1 e)
     have ae:Hid (Kb 64 #[.pointer (some ⟨g,0,none⟩),.string (s.extract p (xq s p))] W fun e w'=>aT S w0 g s o T0 p e w'):=
      dZ (kk:=4) h h.lq O ac (by omega) (by decide) (fun hx=>absurd hx F) (fun _=>Dj h.ms O H F I hq)
     clear h hE H F M I hq
     go_enter func62,ntmps62
     go_wp2_with fail
     go_step3
     go_wp2_with(first|(go_at_call 70;refine J.out.mono ?_;rintro e G⟨rfl,u⟩;replace u:=u.symm;subst u)|(go_at_call 101;refine ab.out.mono ?_;rintro e G⟨rfl,u⟩;replace u:=u.symm;subst u)|(go_at_call 102;refine ad.out.mono ?_;rintro e G⟨rfl,u⟩;replace u:=u.symm;subst u)|(go_at_call 64;refine ae.out.mono ?_;intro e G hz;obtain⟨E,k',b',f',p',new',rfl,hz'⟩:=hz;have HF:Hid (aT S w0 g s o T0 p (.returned (.int .i64 E)) G):=⟨E,k',b',f',p',new',rfl,hz'⟩;clear hz'))
     go_ret
     exact HF.out
section
variable {P:Program} {a:Act} {w:World} {Q:Exit->Act->World->Prop}
theorem aH {M r1:Code}(I l1:Nat) (h0:findLabel c I=some M) (h1:findLabel c l1=some r1)
  (first:c.wp P (Exit.jump l1 (fun a w=>r1.wp P (Exit.jump I (fun a w=>M.wp P (Exit.jump I (fun _ _=>False) Q) a w) Q) a w) Q) a w):(Code.scope c).wp P Q a w:=by
 intro b k cs;have g0:gotoIn I (.inScope c :: k)=some (.code M :: .inScope c :: k):=by simp[gotoIn,h0]
 have g1:gotoIn l1 (.inScope c :: k)=some (.code r1 :: .inScope c :: k):=by simp[gotoIn,h1]
 have aa:∀a w,M.wp P (Exit.jump I (fun _ _=>False) Q) a w->∃e O w',Q e O w'/\Arrives P (lone (b.at a (.code M :: .inScope c :: k)) cs w) b k cs e O w':=by
  intro a w hJ;obtain⟨e,G,H,F,u⟩:=hJ b (.inScope c :: k) cs;cases e with
  |normal=>exact⟨.normal,G,H,F,Steps.trans u (.one step_inScope)⟩
  |exit id=>exact⟨.exit id,G,H,F,fun k' hk=>u k' (by simp[exitTo,hk])⟩
  |goto l'=>exact F.2.elim
  |ret=>exact⟨_,G,H,F,u⟩
  |panic ch=>exact⟨_,G,H,F,u⟩
  |outgrown=>exact⟨_,G,H,F,u⟩
 have ab:∀a w,r1.wp P (Exit.jump I (fun a w=>M.wp P (Exit.jump I (fun _ _=>False) Q) a w) Q) a w->∃e O w',Q e O w'/\Arrives P (lone (b.at a (.code r1 :: .inScope c :: k)) cs w) b k cs e O w':=by
  intro a w hJ;obtain⟨e,G,H,F,u⟩:=hJ b (.inScope c :: k) cs;cases e with
  |normal=>exact⟨.normal,G,H,F,Steps.trans u (.one step_inScope)⟩
  |exit id=>exact⟨.exit id,G,H,F,fun k' hk=>u k' (by simp[exitTo,hk])⟩
  |goto l'=>
   obtain⟨rfl,J⟩:=F;obtain⟨e₂,a₂,w₂,hq₂,harr₂⟩:=aa G H J;exact⟨e₂,a₂,w₂,hq₂,.of_steps (u _ g0) harr₂⟩
  |ret=>exact⟨_,G,H,F,u⟩
  |panic ch=>exact⟨_,G,H,F,u⟩
  |outgrown=>exact⟨_,G,H,F,u⟩
 obtain⟨e,G,H,F,u⟩:=first b (.inScope c :: k) cs
 cases e with
 |normal=>exact⟨.normal,G,H,F,.head OF (Steps.trans u (.one step_inScope))⟩
 |exit id=>exact⟨.exit id,G,H,F,fun k' hk=>.head OF (u k' (by simp[exitTo,hk]))⟩
 |goto l'=>
  obtain⟨rfl,J⟩:=F;obtain⟨e₂,a₂,w₂,hq₂,harr₂⟩:=ab G H J;exact⟨e₂,a₂,w₂,hq₂,.of_steps (.head OF (u _ g1)) harr₂⟩
 |ret=>exact⟨_,G,H,F,.of_steps (.one OF) u⟩
 |panic ch=>exact⟨_,G,H,F,.of_steps (.one OF) u⟩
 |outgrown=>exact⟨_,G,H,F,.of_steps (.one OF) u⟩
theorem aN {r:Code}(l:Nat) (H:findLabel c l=some r) (first:c.wp P (Exit.jump l (fun a w=>r.wp P (Exit.jump l (fun _ _=>False) Q) a w) Q) a w):(Code.scope c).wp P Q a w:=by
 refine OA l _ (fun _ _=>0) H first (fun a w h=>?_)
 intro b k cs;obtain ⟨e,G,I,F,u⟩:=h b k cs;refine ⟨e,G,I,?_,u⟩;cases e with
 |goto l'=>exact F.2.elim
 |_=>exact F
end
