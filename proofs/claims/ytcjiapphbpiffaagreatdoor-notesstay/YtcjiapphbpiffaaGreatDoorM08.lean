import Derived.Test.YtcjiapphbpiffaaGreatDoorM07
set_option linter.unusedVariables false
set_option linter.unusedSimpArgs false
set_option maxHeartbeats 2000000
namespace Go.Proofs.YtcjiapphbpiffaaGreatDoor.Lx
open Go.RowKit
def iz (s:ByteArray) (c a b:Nat):Int × Int × Int:=if c=0 then (0,0,0) else if c=102 then (a,pL s a,pC s a) else (b,pL s b,pC s b)
theorem Dd {w0 W:World}{g:Nat}{s:ByteArray}{a b f:Nat}{l:List Tv}(h:Rs w0 W g s a b f l) (c:Nat) (hs:s.size<=2147483647) (ab:b<=a) (ha:bd s a) (hb:bd s b) :
  Ta 31 #[.pointer (some ⟨g,0,none⟩),.int .i64 c] W fun e w'=>e=.returned (.agg #[.int .i64 (iz s c a b).1,.int .i64 (iz s c a b).2.1,.int .i64 (iz s c a b).2.2])/\Below W.heap.size W w':=by
 obtain ⟨Z,h2,v,U,h4⟩:=h;obtain ⟨W1,hW1⟩:∃W1,W.alloc (.cells #[.int .i64 0,.int .i64 0,.int .i64 0] 47)=W1:=⟨_,rfl⟩;have F:Below W.heap.size W W1:=by rw [<-hW1];exact (hH _ _).alloc (gt _) _
 have k0:bY W1 W.heap.size 0 0 0:=by rw [<-hW1];exact bY.new W 0 0 0
 have I:RB W1 g s a (bk s a) (fw s a) b f v:=ag U F;obtain ⟨_,_,_,_,c4,c5,c6,_,_⟩:=Rq.cells I;have g0:=k0.cell0;have g1:=k0.cell1;have g2:=k0.cell2;have f0:=k0.frozen 0;have f1:=k0.frozen 1;have f2:=k0.frozen 2
 by_cases S:c=0
 ·subst S;have G:iz s 0 a b=(0,0,0):=rfl;rw [G];clear G Z U h4 I c4 c5 c6
  go_enter Tryz.func31,Tryz.ntmps31
  go_wp2_with fail
  have C:=((k0.set0 0).set1 0).set2 0;have J:=C.cell0;have M:=C.cell1;have O:=C.cell2;refine Ti (v:=.agg #[.int .i64 0,.int .i64 0,.int .i64 0]) (by simp [results,Tryz.f31,go_sem,J,M,O]) rfl ?_;exact ⟨rfl,((F.setCell (p:=⟨W.heap.size,0,none⟩) (gt _) _).setCell (p:=⟨W.heap.size,1,none⟩) (gt _) _).setCell (p:=⟨W.heap.size,2,none⟩) (gt _) _⟩
 ·have q0:((c:Int) == 0)=false:=by simp;omega
  by_cases Y:c=102
  ·subst Y;have G:iz s 102 a b=((a:Int),pL s a,pC s a):=rfl;rw [G];have HH:Hid (Ta 66 #[.pointer (some ⟨g,0,none⟩)] W1 fun e w'=>e=.returned (.agg #[.int .i64 a,.int .i64 (pL s a),.int .i64 (pC s a)])/\Tb W1 w'):=wF I hs ab hb ha;clear G Z U h4 I c4 c5 c6 q0 S g0 g1 g2 f0 f1 f2
   generalize pL s a=L2 at *
   generalize pC s a=C2 at *
   go_enter Tryz.func31,Tryz.ntmps31
   go_wp2_with (first|(go_at_call 66;(try rw [hW1]);refine HH.out.mono ?_;rintro e w1 ⟨rfl,Q⟩;have H:=k0.below Q;have g0:=H.cell0;have g1:=H.cell1;have g2:=H.cell2;have f0:=H.frozen 0;have f1:=H.frozen 1;have f2:=H.frozen 2))
   have C:=((H.set0 a).set1 L2).set2 C2;have J:=C.cell0;have M:=C.cell1;have O:=C.cell2;refine Ti (v:=.agg #[.int .i64 a,.int .i64 L2,.int .i64 C2]) (by simp [results,Tryz.f31,go_sem,J,M,O]) rfl ?_;have aa:=F.trans (Q.mono F.size);exact ⟨rfl,((aa.setCell (p:=⟨W.heap.size,0,none⟩) (gt _) _).setCell (p:=⟨W.heap.size,1,none⟩) (gt _) _).setCell (p:=⟨W.heap.size,2,none⟩) (gt _) _⟩
  ·have q2:((c:Int) == 102)=false:=by simp;omega
   have G:iz s c a b=((b:Int),pL s b,pC s b):=by unfold iz;rw [Eq S,Eq Y]
   rw [G];clear G Z U h4 I S Y
   generalize pL s b=L2 at *
   generalize pC s b=C2 at *
   go_enter Tryz.func31,Tryz.ntmps31
   go_wp2_with fail
   have C:=((k0.set0 b).set1 L2).set2 C2;have J:=C.cell0;have M:=C.cell1;have O:=C.cell2;refine Ti (v:=.agg #[.int .i64 b,.int .i64 L2,.int .i64 C2]) (by simp [results,Tryz.f31,go_sem,J,M,O]) rfl ?_;exact ⟨rfl,((F.setCell (p:=⟨W.heap.size,0,none⟩) (gt _) _).setCell (p:=⟨W.heap.size,1,none⟩) (gt _) _).setCell (p:=⟨W.heap.size,2,none⟩) (gt _) _⟩
end Go.Proofs.YtcjiapphbpiffaaGreatDoor.Lx
namespace Go.Proofs.YtcjiapphbpiffaaGreatDoor
open Go.Proofs.YtcjiapphbpiffaaGreatDoor.Lx
open Go.RowKit
theorem Rt.base {B F:Nat}{w:World}{v:Value}{l:List Tv}(h:Rt B w v l) (J:F<=B):Rt F w v l:=by
 refine ⟨h.1,?_⟩
 rcases h.2 with G|⟨g,cap,C,rfl,H,I⟩
 ·exact .inl G
 ·exact .inr ⟨g,cap,C,rfl,SY J H,I⟩
end Go.Proofs.YtcjiapphbpiffaaGreatDoor
namespace Go.Proofs.YtcjiapphbpiffaaGreatDoor.Lx
open Go.RowKit
theorem uL (s:ByteArray) (w:World) (hT:nt w) (hs:s.size<=2147483647) :
  Ta 17 #[.string s] w fun e w'=>AV w s e w':=by
 obtain ⟨H,Q⟩:∃H,w.alloc (.cells #[.int .i64 0,.int .i64 0,.int .i64 0] 47)=H:=⟨_,rfl⟩;have O:Below w.heap.size w H:=by rw [<-Q];exact (hH _ _).alloc (gt _) _
 have k0:bY H w.heap.size 0 0 0:=by rw [<-Q];exact bY.new w 0 0 0
 have aa:=hT.below O;have HS:Hid (∀V,Ta 28 #[] V fun e w'=>e=.returned (.agg #[.int .i64 0,.int .i64 1,.int .i64 1])/\Tb V w'):=ra;have HL:Hid (∀V g,Rq H V g s 0 0 0 0 0 []->Ta 29 #[.pointer (some ⟨g,0,none⟩)] V fun e w'=>e=.returned (.tuple #[])/\Rs H w' g s 0 0 0 []):=fun V g F=>wm F (by omega) (SW _)
 have HD:Hid (∀V g,Rs H V g s 0 0 0 []->Ta 30 #[.pointer (some ⟨g,0,none⟩)] V fun e w'=>e=.returned (.int .i64 ((cV s).2.1:Nat))/\RP H w' g s):=fun V g F=>pi aa F hs
 obtain ⟨p1,p2⟩:=NP s
 have HN:Hid (∀V,Tb H V->Rq H (V.alloc (.cells #[.string s,.int .i64 0,.int .i32 0,.int .i64 0,.int .i64 0,.int .i64 1,.int .i64 1,.int .i64 0,.slice none 0 0] 93)) V.heap.size s 0 0 0 0 0 []):=fun V F=>by
  refine ⟨F.alloc F.size _,F.size,.slice none 0 0,?_,Nq _ _⟩;have h9:=aq V (.cells #[.string s,.int .i64 0,.int .i32 0,.int .i64 0,.int .i64 0,.int .i64 1,.int .i64 1,.int .i64 0,.slice none 0 0] 93);unfold RB;rw [p1,p2];exact h9
 clear p1 p2 hT aa
 go_enter Tryz.func17,Tryz.ntmps17
 go_wp2_with (first|(go_at_call 28;(try rw [Q]);refine (HS.out _).mono ?_;rintro e w1 ⟨rfl,U⟩)|(go_at_call 29;refine (HL.out _ _ (HN.out _ U)).mono ?_;rintro e w2 ⟨rfl,hr2⟩)|(go_at_call 30;refine (HD.out _ _ hr2).mono ?_;rintro e w3 ⟨rfl,hr3⟩))
 obtain ⟨I,J,f',hr,t1,t2,t3,t4,t5⟩:=hr3;obtain ⟨c,hc⟩:∃c,(cV s).2.1=c:=⟨_,rfl⟩;obtain ⟨z,hz⟩:∃z,(cV s).2.2=z:=⟨_,rfl⟩;rw [hc] at t4 t5;rw [hz] at t4 t5
 have HV:Hid (AV w s=fun e w'=>(∃v,e=.returned (.tuple #[v,.int .i64 c,.agg #[.int .i64 (iz s c I J).1,.int .i64 (iz s c I J).2.1,.int .i64 (iz s c I J).2.2]])/\Rt w.heap.size w' v ((cV s).1.map (tv s)))/\Tb w w'):=by
  show _=_
  funext e w'
  unfold AV;rw [hc,hz]
  have e1:((if c=0 then 0 else (z:Int))=(iz s c I J).1/\(if c=0 then 0 else pL s z)=(iz s c I J).2.1/\(if c=0 then 0 else pC s z)=(iz s c I J).2.2):=by
   unfold iz
   by_cases c0:c=0
   ·simp only [IO c0];exact ⟨trivial,trivial,trivial⟩
   ·by_cases c2:c=102
    ·have:=t4 c2;subst this;simp only [Eq c0,IO c2];exact ⟨trivial,trivial,trivial⟩
    ·have:=t5 c0 c2;subst this;simp only [Eq c0,Eq c2];exact ⟨trivial,trivial,trivial⟩
  rw [e1.1,e1.2.1,e1.2.2]
 have HF:Hid (∀V,Tb w3 V->Ta 31 #[.pointer (some ⟨w1.heap.size,0,none⟩),.int .i64 c] V fun e w'=>e=.returned (.agg #[.int .i64 (iz s c I J).1,.int .i64 (iz s c I J).2.1,.int .i64 (iz s c I J).2.2])/\Tb V w'):=fun V F=>Dd (Rq.below hr F) c (by omega) t3 t1 t2
 obtain ⟨r1,r2,v,r3,r4⟩:=hr;have Z:w1.heap.size≠w.heap.size:=by have h8:=k0.lt;have h9:=U.size;omega
 have HK:Hid (∀V,Tb w3 V->V.cell? ⟨w1.heap.size,8,none⟩=some v/\Tb w V):=fun V F=>⟨af (ag r3 F) rfl,O.trans ((r1.trans (F.mono r1.size)).mono O.size)⟩
 have M:Hid (∀V x y z,Tb w3 V->(((V.setCell ⟨w.heap.size,0,none⟩ x).setCell ⟨w.heap.size,1,none⟩ y).setCell ⟨w.heap.size,2,none⟩ z).cell? ⟨w1.heap.size,8,none⟩=some v/\Tb w (((V.setCell ⟨w.heap.size,0,none⟩ x).setCell ⟨w.heap.size,1,none⟩ y).setCell ⟨w.heap.size,2,none⟩ z)/\Rt w.heap.size (((V.setCell ⟨w.heap.size,0,none⟩ x).setCell ⟨w.heap.size,1,none⟩ y).setCell ⟨w.heap.size,2,none⟩ z) v ((cV s).1.map (tv s))):=fun V x y z F=>by
  have h8:=r4.below F;have G:=(HK.out V F).2;have h9:∀k,v.ownBlock=some k->k≠w.heap.size:=fun k hk=>by have h7:=r4.own k hk;have h6:=k0.lt;omega
  refine ⟨af (bh (bh (bh (ag r3 F) Z _) Z _) Z _) rfl,((G.setCell (p:=⟨w.heap.size,0,none⟩) (gt _) _).setCell (p:=⟨w.heap.size,1,none⟩) (gt _) _).setCell (p:=⟨w.heap.size,2,none⟩) (gt _) _,?_⟩;exact (((h8.base O.size).kp (Kp.set _ w.heap.size 0 _) h9).kp (Kp.set _ w.heap.size 1 _) h9).kp (Kp.set _ w.heap.size 2 _) h9
 have HW:Hid (∀V,Tb w3 V->bY V w.heap.size 0 0 0):=fun V F=>k0.below (r1.trans (F.mono r1.size))
 rw [hc];obtain ⟨⟨A,L,C⟩,hR⟩:∃R,iz s c I J=R:=⟨_,rfl⟩;rw [hR] at HV HF;clear hr2 U t1 t2 t3 t4 t5 r1 r2 r3 r4 hc hz Q k0 hR
 go_region_held3 (fun w'=>w'.cell? ⟨w1.heap.size,8,none⟩=some v/\Below w.heap.size w w') (first|(exact HK.out _ (by assumption))|(exact HK.out _ (hH _ _).drew)|(exact ⟨(M.out _ _ _ _ G).1,(M.out _ _ _ _ G).2.1⟩)|go_keep) (first|(go_at_call 31;refine (HF.out _ (hH _ _).drew).mono ?_;rintro e w4 ⟨rfl,ab⟩;have G:Below w3.heap.size w3 w4:=(hH w3.heap.size w3).drew.trans (ab.mono (gt _));have S:=HW.out _ G;have g0:=S.cell0;have g1:=S.cell1;have g2:=S.cell2;have f0:=S.frozen 0;have f1:=S.frozen 1;have f2:=S.frozen 2))
 all_goals (
  go_wp2_with fail
  have Y:=((S.set0 A).set1 L).set2 C;have m0:=Y.cell0;have m1:=Y.cell1;have m2:=Y.cell2;refine Ti (v:=.tuple #[v,.int .i64 c,.agg #[.int .i64 A,.int .i64 L,.int .i64 C]]) (by simp [results,Tryz.f17,go_sem,m0,m1,m2]) rfl ?_;rw [HV.out];exact ⟨⟨v,rfl,(M.out _ _ _ _ G).2.2⟩,(M.out _ _ _ _ G).2.1⟩)
theorem Lv (s:ByteArray) (a p i:Nat) (F:a<=p) (H:p<=s.size) (G:a+i<p) (hd:a+i+dw s (a+i)<=p):Utf8.decode (s.extract a p) i=Utf8.decode s (a+i):=by
 have z:(s.extract a s.size).size=s.size-a:=av s a _ (gt _);have t:=gK s a i (by omega)
 have e:s.extract a p=(s.extract a s.size).extract 0 (p-a):=by
  rw [gJ s a s.size 0 (p-a) (gt _) (by omega) (SW _),TS,show a+(p-a)=p by omega]
 have C:dw (s.extract a s.size) i=dw s (a+i):=by unfold dw;rw [t]
 rw [e,xe (s.extract a s.size) (p-a) i (by omega) (by omega) (by rw [C];omega),t]
theorem Pg (H:Nat) {c1 c2 c3 C F G:Option Nat}(h:ct c1=false) (I:ct C=false):D H c1 c2 c3=D H C F G:=by unfold D;simp [h,I]
theorem Pf (G:Nat) {c1 c2 c3 C F:Option Nat}(h:ct c2=false) (H:ct C=false):D G c1 c2 c3=D G c1 C F:=by unfold D;simp [h,H]
theorem Pe (F:Nat) {c1 c2 c3 C:Option Nat}(h:ct c3=false) (G:ct C=false):D F c1 c2 c3=D F c1 c2 C:=by unfold D;simp [h,G]
theorem Dt (a c:ByteArray) (h:ct (ob c 0)=false) (i:Nat) (M:i<a.size):Utf8.decode (a++c) i=Utf8.decode a i:=by
 have F:∀j,j<a.size->ob (a++c) j=ob a j:=fun j O=>by rw [pD,IO O]
 have C:ob (a++c) a.size=ob c 0:=by rw [pD,Eq (by omega),VB]
 have G:ct (ob a a.size)=false:=by unfold ob;rw [Eq (by omega)];rfl
 rw [cf,cf,bC,IO M]
 by_cases H:i+1=a.size
 ·exact Pg _ (by rw [H,C];exact h) (by rw [H];exact G)
 ·rw [F (i+1) (by omega)]
  by_cases I:i+2=a.size
  ·exact Pf _ (by rw [I,C];exact h) (by rw [I];exact G)
  ·rw [F (i+2) (by omega)]
   by_cases J:i+3=a.size
   ·exact Pe _ (by rw [J,C];exact h) (by rw [J];exact G)
   ·rw [F (i+3) (by omega)]
theorem eH (a c:ByteArray) (i:Nat):gd (a++c) (a.size+i)=gd c i/\dp (a++c) (a.size+i)=dp c i/\dw (a++c) (a.size+i)=dw c i:=by
 unfold gd dp dw;rw [yY a c i];exact ⟨rfl,rfl,rfl⟩
theorem yy (a c t:ByteArray) (i:Nat):pre (a++c) (a.size+i) t=pre c i t:=by
 have F:=aY a c
 by_cases h:i+t.size<=c.size
 ·rw [Fm (by omega),Fm h]
  have:(a++c).extract (a.size+i) (a.size+i+t.size)=c.extract i (i+t.size):=by
   refine dr _ _ (by rw [av _ _ _ (by omega),av _ _ _ h];omega) (fun j C=>?_);rw [av _ _ _ (by omega)] at C;rw [aI _ _ _ _ (by omega),aI _ _ _ _ (by omega),bC,Eq (by omega)]
   congr 1;omega
  rw [this]
 ·rw [Ao (by omega),Ao h]
theorem rm (a c:ByteArray) (i:Nat):sg (a++c) (a.size+i)=sg c i:=by
 unfold sg;rw [show pre (a++c) (a.size+i)=pre c i from funext (yy a c · i)]
theorem eu (a c:ByteArray) (i:Nat):ay (a++c) (a.size+i)=ay c i:=by
 rw [bC,Eq (by omega)];congr 1;omega
theorem qy (a c:ByteArray) (i:Nat):ak (a++c) (a.size+i)=ak c i:=by
 have G:=aY a c;unfold ak;rw [(eH a c i).1,(eH a c i).2.1,eu,rm,show a.size+i+1=a.size+(i+1) by omega,eu];have:(ay c i=47/\a.size+(i+1)<(a++c).size/\ay c (i+1)=47)↔(ay c i=47/\i+1<c.size/\ay c (i+1)=47):=by rw [G];constructor <;> rintro ⟨C,H,F⟩ <;> exact ⟨C,by omega,F⟩
 simp only [this]
def Rd.up (n:Nat):Rd->Rd
 |.out p e=>.out (n+p) e
 |.on k=>.on k
theorem sL {g G:Nat->Nat->Rd}{z n:Nat}(H:gw g z) (C:gw G (n+z)) (h:∀b k,b<=z->G (n+b) k=(g b k).up n) :
  ∀(d a m:Nat),z-a<=d->a<=z->run G (n+z) (n+a) m=(n+(run g z a m).1,(run g z a m).2)
 |d,a,m,hd,ha=>by
  have F:=h a m ha;cases e:g a m with
  |out p q=>
   rw [e] at F;rw [cB ha e,cB (by omega) F]
  |on k=>
   rw [e] at F;obtain ⟨J,I⟩:=H a m k e;rw [fK H ha e,fK C (by omega) F,Um];cases d with
   |zero=>omega
   |succ d=>exact sL H C h d (a+k) (m+1) (by omega) I
theorem qo (a c:ByteArray) (i k:Nat) (G:i<c.size):ap (a++c) (a.size+i) k=(a.size+(ap c i k).1,(ap c i k).2):=by
 have F:=aY a c
 have I:∀q o,run (cE (a++c) (a.size+i) q o) (a++c).size (a.size+i+1) 0=(a.size+(run (cE c i q o) c.size (i+1) 0).1,(run (cE c i q o) c.size (i+1) 0).2):=by
  intro q o;have C:=fp (a++c) (a.size+i) q o;rw [F] at C ⊢;refine sL (fp c i q o) C (fun b m J=>?_) _ (i+1) 0 (gt _) G;unfold cE gy;rw [eu,(eH a c b).1,(eH a c b).2.1,(eH a c b).2.2,F];rw [show a.size+b+dw c b-(a.size+i)=b+dw c b-i by omega];simp only [VG]
  repeat' split
  all_goals rfl
 have H:∀o,run (bF (a++c) (a.size+i) o) (a++c).size (a.size+i) 0=(a.size+(run (bF c i o) c.size i 0).1,(run (bF c i o) c.size i 0).2):=by
  intro o;have C:=dm (a++c) (a.size+i) o;rw [F] at C ⊢;refine sL (dm c i o) C (fun b m J=>?_) _ i 0 (gt _) (T5 G);unfold bF;rw [eu,F];rw [show a.size+b+1-(a.size+i)=b+1-i by omega];simp only [VG]
  repeat' split
  all_goals rfl
 have M:run (cg (a++c) (a.size+i) k) (a++c).size (a.size+i) 0=(a.size+(run (cg c i k) c.size i 0).1,(run (cg c i k) c.size i 0).2):=by
  have C:=cY (a++c) (a.size+i) k;rw [F] at C ⊢;refine sL (cY c i k) C (fun b m J=>?_) _ i 0 (gt _) (T5 G);unfold cg;rw [eu,(eH a c b).1,(eH a c b).2.1,(eH a c b).2.2,F];rw [show a.size+b+dw c b-(a.size+i)=b+dw c b-i by omega];simp only [VG]
  repeat' split
  all_goals rfl
 unfold ap;rw [I,I,H,H,M,rm]
 repeat' split
 all_goals first|rfl|(rw [Um])
theorem qj (a c:ByteArray) (i p:Nat) (F:p<=c.size):(a++c).extract (a.size+i) (a.size+p)=c.extract i p:=by
 have G:=aY a c;refine dr _ _ (by rw [av _ _ _ (by omega),av _ _ _ F];omega) (fun j C=>?_);rw [av _ _ _ (by omega)] at C;rw [aI _ _ _ _ (by omega),aI _ _ _ _ (by omega),bC,Eq (by omega)]
 congr 1;omega
theorem mL (a c:ByteArray) (j:Nat) (C:cq (ay c j)=false):∀p,j<p->aV (a++c) (a.size+p)=a.size+aV c p
 |0,h=>by omega
 |p+1,h=>by
  rw [show a.size+(p+1)=(a.size+p)+1 by omega];unfold aV;rw [eu]
  by_cases e:cq (ay c p)=true
  ·rw [IO e,IO e];refine mL a c j C p ?_
   rcases Vy j p with F|F
   ·exact F
   ·rw [show j=p by omega,e] at C;cases C
  ·rw [Eq e,Eq e];omega
def Tk.up (n:Nat) (t:Tk):Tk:=⟨t.k,n+t.a,n+t.e,t.f⟩
theorem xU (a c:ByteArray) (k i p f:Nat) (C:cq (ay c i)=false) (F:i<p) (G:p<=c.size):bS (a++c) k (a.size+i) (a.size+p) f=(bS c k i p f).up a.size:=by
 unfold bS Tk.up;rw [qj a c i p G,mL a c i C p F]
 congr 1
 split <;> rfl
theorem fe (a c:ByteArray):∀(d i f:Nat),c.size-i<=d->ep (a++c) (a.size+i) f=((ep c i f).1.map (Tk.up a.size),(ep c i f).2.1,if (ep c i f).2.1=0 then 0 else a.size+(ep c i f).2.2)
 |d,i,f,hd=>by
  have M:=aY a c
  by_cases h:i<c.size
  ·cases d with
   |zero=>omega
   |succ d=>
    rw [bP (a++c) (a.size+i) f (by omega),bP c i f h,eu,qy,qo a c i _ h]
    by_cases H:ay c i=10
    ·rw [IO H,IO H,Um];exact fe a c d (i+1) (f+1) (by omega)
    ·rw [Eq H,Eq H]
     by_cases F:cq (ay c i)=true
     ·rw [IO F,IO F,Um];exact fe a c d (i+1) f (by omega)
     ·rw [Eq F,Eq F]
      by_cases G:ak c i=0
      ·rw [IO G,IO G];rfl
      ·rw [Eq G,Eq G]
       by_cases C:(ap c i (ak c i)).2≠0
       ·rw [IO C,IO C];show _=(_,_,if (ap c i (ak c i)).2=0 then 0 else _);rw [Eq C];rfl
       ·rw [Eq C,Eq C];have I:=da c i (ak c i) (ap c i (ak c i)).1 h rfl G (VU rfl (by simpa using C));have J:=fe a c d (ap c i (ak c i)).1 0 (by omega);show (bS (a++c) _ _ (a.size+(ap c i (ak c i)).1) f :: (ep (a++c) (a.size+(ap c i (ak c i)).1) 0).1,(ep (a++c) (a.size+(ap c i (ak c i)).1) 0).2)=_;rw [J,xU a c _ i _ f (by simpa using F) I.1 I.2];rfl
  ·rw [dq (a++c) (a.size+i) f (by omega),dq c i f (by omega)];rfl
theorem qg {f g:ByteArray->Bool}:∀l:List ByteArray,(∀x∈l,f x=g x)->l.find? f=l.find? g
 |[],_=>rfl
 |x :: l,h=>by
  rw [List.find?_cons,List.find?_cons,h x (S4 ..),qg l (fun y C=>h y (SZ _ C))]
theorem EF:∀x∈aZ,x.size=1\/(x.size=2/\ay x 1≠10):=by decide
theorem rR (a c:ByteArray) (i p:Nat) (F:p<=a.size):(a++c).extract i p=a.extract i p:=by
 have G:=aY a c;refine dr _ _ (by rw [av _ _ _ (by omega),av _ _ _ F]) (fun j C=>?_);rw [av _ _ _ (by omega)] at C;rw [aI _ _ _ _ (by omega),aI _ _ _ _ (by omega),bC,IO (by omega)]
theorem cA (a c:ByteArray) (i:Nat) (C:i<a.size):ay (a++c) i=ay a i:=by rw [bC,IO C]
def dZ:ByteArray:=⟨#[10]⟩
theorem Ac (s:ByteArray) (f k b m p:Nat) (h:cg s f k b m=.out p 0):b<=p:=by
 unfold cg at h
 repeat' split at h
 all_goals cases h
 all_goals exact gt _
theorem JW (s:ByteArray) (f q:Nat) (o:Bool) (b m p:Nat) (h:cE s f q o b m=.out p 0):b<=p:=by
 unfold cE at h
 repeat' split at h
 all_goals cases h
 all_goals omega
theorem Bg (s:ByteArray) (f:Nat) (o:Bool) (b m p:Nat) (h:bF s f o b m=.out p 0):b<=p:=by
 unfold bF at h
 repeat' split at h
 all_goals cases h
 all_goals omega
end Go.Proofs.YtcjiapphbpiffaaGreatDoor.Lx
