import Derived.Test.YtjiepkenkcgkhaaGreatDoorM07
set_option linter.unusedVariables false
set_option linter.unusedSimpArgs false
set_option maxHeartbeats 2000000
namespace Go.Proofs.YtjiepkenkcgkhaaGreatDoor.Lx
open Go.RowKit
def ie (s:ByteArray) (c a b:Nat):Int × Int × Int:=if c=0 then (0,0,0) else if c=102 then (a,pL s a,pC s a) else (b,pL s b,pC s b)
theorem BS {w0 W:World}{g:Nat}{s:ByteArray}{a b f:Nat}{l:List Tv}(h:Rs w0 W g s a b f l) (c:Nat) (hs:s.size<=2147483647) (hba:b<=a) (ha:bd s a) (hb:bd s b) :
  Ra 23 #[.pointer (some ⟨g,0,none⟩),.int .i64 c] W fun e w'=>e=.returned (.agg #[.int .i64 (ie s c a b).1,.int .i64 (ie s c a b).2.1,.int .i64 (ie s c a b).2.2])/\Below W.heap.size W w':=by
 obtain ⟨h1,h2,v,h3,h4⟩:=h;obtain ⟨W1,hW1⟩:∃W1,W.alloc (.cells #[.int .i64 0,.int .i64 0,.int .i64 0] 34)=W1:=⟨_,rfl⟩;have hB0:Below W.heap.size W W1:=by rw [<-hW1];exact (hH _ _).alloc (gt _) _
 have k0:bT W1 W.heap.size 0 0 0:=by rw [<-hW1];exact bT.new W 0 0 0
 have k3:RB W1 g s a (bf s a) (fe s a) b f v:=ag h3 hB0;obtain ⟨_,_,_,_,c4,c5,c6,_,_⟩:=Rq.cells k3;have g0:=k0.cell0;have g1:=k0.cell1;have g2:=k0.cell2;have f0:=k0.frozen 0;have f1:=k0.frozen 1;have f2:=k0.frozen 2
 by_cases e0:c=0
 ·subst e0;have e1:ie s 0 a b=(0,0,0):=rfl;rw [e1];clear e1 h1 h3 h4 k3 c4 c5 c6
  go_enter Tryz.func23,Tryz.ntmps23
  go_wp2_with fail
  have hb5:=((k0.set0 0).set1 0).set2 0;have m0:=hb5.cell0;have m1:=hb5.cell1;have m2:=hb5.cell2;refine QV (v:=.agg #[.int .i64 0,.int .i64 0,.int .i64 0]) (by simp [results,Tryz.f23,go_sem,m0,m1,m2]) rfl ?_;exact ⟨rfl,((hB0.setCell (p:=⟨W.heap.size,0,none⟩) (gt _) _).setCell (p:=⟨W.heap.size,1,none⟩) (gt _) _).setCell (p:=⟨W.heap.size,2,none⟩) (gt _) _⟩
 ·have q0:((c:Int) == 0)=false:=by simp;omega
  by_cases e2:c=102
  ·subst e2;have e1:ie s 102 a b=((a:Int),pL s a,pC s a):=rfl;rw [e1];have HH:Hid (Ra 60 #[.pointer (some ⟨g,0,none⟩)] W1 fun e w'=>e=.returned (.agg #[.int .i64 a,.int .i64 (pL s a),.int .i64 (pC s a)])/\Rc W1 w'):=vu k3 hs hba hb ha;clear e1 h1 h3 h4 k3 c4 c5 c6 q0 e0 g0 g1 g2 f0 f1 f2
   generalize pL s a=L2 at *
   generalize pC s a=C2 at *
   go_enter Tryz.func23,Tryz.ntmps23
   go_wp2_with (first|(go_at_call 60;(try rw [hW1]);refine HH.out.mono ?_;rintro e w1 ⟨rfl,hb1⟩;have k1:=k0.below hb1;have g0:=k1.cell0;have g1:=k1.cell1;have g2:=k1.cell2;have f0:=k1.frozen 0;have f1:=k1.frozen 1;have f2:=k1.frozen 2))
   have hb5:=((k1.set0 a).set1 L2).set2 C2;have m0:=hb5.cell0;have m1:=hb5.cell1;have m2:=hb5.cell2;refine QV (v:=.agg #[.int .i64 a,.int .i64 L2,.int .i64 C2]) (by simp [results,Tryz.f23,go_sem,m0,m1,m2]) rfl ?_;have hbX:=hB0.trans (hb1.mono hB0.size);exact ⟨rfl,((hbX.setCell (p:=⟨W.heap.size,0,none⟩) (gt _) _).setCell (p:=⟨W.heap.size,1,none⟩) (gt _) _).setCell (p:=⟨W.heap.size,2,none⟩) (gt _) _⟩
  ·have q2:((c:Int) == 102)=false:=by simp;omega
   have e1:ie s c a b=((b:Int),pL s b,pC s b):=by unfold ie;rw [Eq e0,Eq e2]
   rw [e1];clear e1 h1 h3 h4 k3 e0 e2
   generalize pL s b=L2 at *
   generalize pC s b=C2 at *
   go_enter Tryz.func23,Tryz.ntmps23
   go_wp2_with fail
   have hb5:=((k0.set0 b).set1 L2).set2 C2;have m0:=hb5.cell0;have m1:=hb5.cell1;have m2:=hb5.cell2;refine QV (v:=.agg #[.int .i64 b,.int .i64 L2,.int .i64 C2]) (by simp [results,Tryz.f23,go_sem,m0,m1,m2]) rfl ?_;exact ⟨rfl,((hB0.setCell (p:=⟨W.heap.size,0,none⟩) (gt _) _).setCell (p:=⟨W.heap.size,1,none⟩) (gt _) _).setCell (p:=⟨W.heap.size,2,none⟩) (gt _) _⟩
end Go.Proofs.YtjiepkenkcgkhaaGreatDoor.Lx
namespace Go.Proofs.YtjiepkenkcgkhaaGreatDoor
open Go.Proofs.YtjiepkenkcgkhaaGreatDoor.Lx
open Go.RowKit
theorem Rt.base {B B':Nat}{w:World}{v:Value}{l:List Tv}(h:Rt B w v l) (hb:B'<=B):Rt B' w v l:=by
 refine ⟨h.1,?_⟩
 rcases h.2 with h1|⟨g,cap,cur,rfl,h2,h3⟩
 ·exact .inl h1
 ·exact .inr ⟨g,cap,cur,rfl,QQ hb h2,h3⟩
end Go.Proofs.YtjiepkenkcgkhaaGreatDoor
namespace Go.Proofs.YtjiepkenkcgkhaaGreatDoor.Lx
open Go.RowKit
theorem Kl (s:ByteArray) (w:World) (hT:nX w) (hs:s.size<=2147483647) :
  Ra 11 #[.string s] w fun e w'=>AV w s e w':=by
 obtain ⟨W0,hW0⟩:∃W0,w.alloc (.cells #[.int .i64 0,.int .i64 0,.int .i64 0] 34)=W0:=⟨_,rfl⟩;have hB0:Below w.heap.size w W0:=by rw [<-hW0];exact (hH _ _).alloc (gt _) _
 have k0:bT W0 w.heap.size 0 0 0:=by rw [<-hW0];exact bT.new w 0 0 0
 have hT0:=hT.below hB0;have HS:Hid (∀V,Ra 20 #[] V fun e w'=>e=.returned (.agg #[.int .i64 0,.int .i64 1,.int .i64 1])/\Rc V w'):=qB;have HL:Hid (∀V g,Rq W0 V g s 0 0 0 0 0 []->Ra 21 #[.pointer (some ⟨g,0,none⟩)] V fun e w'=>e=.returned (.tuple #[])/\Rs W0 w' g s 0 0 0 []):=fun V g hV=>uZ hV (by omega) (QK _)
 have HD:Hid (∀V g,Rs W0 V g s 0 0 0 []->Ra 22 #[.pointer (some ⟨g,0,none⟩)] V fun e w'=>e=.returned (.int .i64 ((fu s).2.1:Nat))/\RP W0 w' g s):=fun V g hV=>oM hT0 hV hs
 obtain ⟨p1,p2⟩:=Mh s
 have HN:Hid (∀V,Rc W0 V->Rq W0 (V.alloc (.cells #[.string s,.int .i64 0,.int .i32 0,.int .i64 0,.int .i64 0,.int .i64 1,.int .i64 1,.int .i64 0,.slice none 0 0] 76)) V.heap.size s 0 0 0 0 0 []):=fun V hV=>by
  refine ⟨hV.alloc hV.size _,hV.size,.slice none 0 0,?_,LS _ _⟩;have h9:=au V (.cells #[.string s,.int .i64 0,.int .i32 0,.int .i64 0,.int .i64 0,.int .i64 1,.int .i64 1,.int .i64 0,.slice none 0 0] 76);unfold RB;rw [p1,p2];exact h9
 clear p1 p2 hT hT0
 go_enter Tryz.func11,Tryz.ntmps11
 go_wp2_with (first|(go_at_call 20;(try rw [hW0]);refine (HS.out _).mono ?_;rintro e w1 ⟨rfl,hb1⟩)|(go_at_call 21;refine (HL.out _ _ (HN.out _ hb1)).mono ?_;rintro e w2 ⟨rfl,hr2⟩)|(go_at_call 22;refine (HD.out _ _ hr2).mono ?_;rintro e w3 ⟨rfl,hr3⟩))
 obtain ⟨a',b',f',hr,t1,t2,t3,t4,t5⟩:=hr3;obtain ⟨c,hc⟩:∃c,(fu s).2.1=c:=⟨_,rfl⟩;obtain ⟨z,hz⟩:∃z,(fu s).2.2=z:=⟨_,rfl⟩;rw [hc] at t4 t5;rw [hz] at t4 t5
 have HV:Hid (AV w s=fun e w'=>(∃v,e=.returned (.tuple #[v,.int .i64 c,.agg #[.int .i64 (ie s c a' b').1,.int .i64 (ie s c a' b').2.1,.int .i64 (ie s c a' b').2.2]])/\Rt w.heap.size w' v ((fu s).1.map (tv s)))/\Rc w w'):=by
  show _=_
  funext e w'
  unfold AV;rw [hc,hz]
  have e1:((if c=0 then 0 else (z:Int))=(ie s c a' b').1/\(if c=0 then 0 else pL s z)=(ie s c a' b').2.1/\(if c=0 then 0 else pC s z)=(ie s c a' b').2.2):=by
   unfold ie
   by_cases c0:c=0
   ·simp only [IO c0];exact ⟨trivial,trivial,trivial⟩
   ·by_cases c2:c=102
    ·have:=t4 c2;subst this;simp only [Eq c0,IO c2];exact ⟨trivial,trivial,trivial⟩
    ·have:=t5 c0 c2;subst this;simp only [Eq c0,Eq c2];exact ⟨trivial,trivial,trivial⟩
  rw [e1.1,e1.2.1,e1.2.2]
 have HF:Hid (∀V,Rc w3 V->Ra 23 #[.pointer (some ⟨w1.heap.size,0,none⟩),.int .i64 c] V fun e w'=>e=.returned (.agg #[.int .i64 (ie s c a' b').1,.int .i64 (ie s c a' b').2.1,.int .i64 (ie s c a' b').2.2])/\Rc V w'):=fun V hV=>BS (Rq.below hr hV) c (by omega) t3 t1 t2
 obtain ⟨r1,r2,v,r3,r4⟩:=hr;have hne:w1.heap.size≠w.heap.size:=by have h8:=k0.lt;have h9:=hb1.size;omega
 have HK:Hid (∀V,Rc w3 V->V.cell? ⟨w1.heap.size,8,none⟩=some v/\Rc w V):=fun V hV=>⟨af (ag r3 hV) rfl,hB0.trans ((r1.trans (hV.mono r1.size)).mono hB0.size)⟩
 have HKs:Hid (∀V x y z,Rc w3 V->(((V.setCell ⟨w.heap.size,0,none⟩ x).setCell ⟨w.heap.size,1,none⟩ y).setCell ⟨w.heap.size,2,none⟩ z).cell? ⟨w1.heap.size,8,none⟩=some v/\Rc w (((V.setCell ⟨w.heap.size,0,none⟩ x).setCell ⟨w.heap.size,1,none⟩ y).setCell ⟨w.heap.size,2,none⟩ z)/\Rt w.heap.size (((V.setCell ⟨w.heap.size,0,none⟩ x).setCell ⟨w.heap.size,1,none⟩ y).setCell ⟨w.heap.size,2,none⟩ z) v ((fu s).1.map (tv s))):=fun V x y z hV=>by
  have h8:=r4.below hV;have hbX:=(HK.out V hV).2;have h9:∀k,v.ownBlock=some k->k≠w.heap.size:=fun k hk=>by have h7:=r4.own k hk;have h6:=k0.lt;omega
  refine ⟨af (aX (aX (aX (ag r3 hV) hne _) hne _) hne _) rfl,((hbX.setCell (p:=⟨w.heap.size,0,none⟩) (gt _) _).setCell (p:=⟨w.heap.size,1,none⟩) (gt _) _).setCell (p:=⟨w.heap.size,2,none⟩) (gt _) _,?_⟩;exact (((h8.base hB0.size).kp (Kp.set _ w.heap.size 0 _) h9).kp (Kp.set _ w.heap.size 1 _) h9).kp (Kp.set _ w.heap.size 2 _) h9
 have HW:Hid (∀V,Rc w3 V->bT V w.heap.size 0 0 0):=fun V hV=>k0.below (r1.trans (hV.mono r1.size))
 rw [hc];obtain ⟨⟨A,L,C⟩,hR⟩:∃R,ie s c a' b'=R:=⟨_,rfl⟩;rw [hR] at HV HF;clear hr2 hb1 t1 t2 t3 t4 t5 r1 r2 r3 r4 hc hz hW0 k0 hR
 go_region_held3 (fun w'=>w'.cell? ⟨w1.heap.size,8,none⟩=some v/\Below w.heap.size w w') (first|(exact HK.out _ (by assumption))|(exact HK.out _ (hH _ _).drew)|(exact ⟨(HKs.out _ _ _ _ hbX).1,(HKs.out _ _ _ _ hbX).2.1⟩)|go_keep) (first|(go_at_call 23;refine (HF.out _ (hH _ _).drew).mono ?_;rintro e w4 ⟨rfl,hb4⟩;have hbX:Below w3.heap.size w3 w4:=(hH w3.heap.size w3).drew.trans (hb4.mono (gt _));have k2:=HW.out _ hbX;have g0:=k2.cell0;have g1:=k2.cell1;have g2:=k2.cell2;have f0:=k2.frozen 0;have f1:=k2.frozen 1;have f2:=k2.frozen 2))
 all_goals (
  go_wp2_with fail
  have hb5:=((k2.set0 A).set1 L).set2 C;have m0:=hb5.cell0;have m1:=hb5.cell1;have m2:=hb5.cell2;refine QV (v:=.tuple #[v,.int .i64 c,.agg #[.int .i64 A,.int .i64 L,.int .i64 C]]) (by simp [results,Tryz.f11,go_sem,m0,m1,m2]) rfl ?_;rw [HV.out];exact ⟨⟨v,rfl,(HKs.out _ _ _ _ hbX).2.2⟩,(HKs.out _ _ _ _ hbX).2.1⟩)
theorem JU (s:ByteArray) (a p i:Nat) (ha:a<=p) (hp:p<=s.size) (hi:a+i<p) (hd:a+i+dw s (a+i)<=p):Utf8.decode (s.extract a p) i=Utf8.decode s (a+i):=by
 have z:(s.extract a s.size).size=s.size-a:=az s a _ (gt _);have t:=gx s a i (by omega)
 have e:s.extract a p=(s.extract a s.size).extract 0 (p-a):=by
  rw [gw s a s.size 0 (p-a) (gt _) (by omega) (QK _),R7,show a+(p-a)=p by omega]
 have hw:dw (s.extract a s.size) i=dw s (a+i):=by unfold dw;rw [t]
 rw [e,vX (s.extract a s.size) (p-a) i (by omega) (by omega) (by rw [hw];omega),t]
theorem NA (b0:Nat) {c1 c2 c3 c1' c2' c3':Option Nat}(h:ct c1=false) (h':ct c1'=false):D b0 c1 c2 c3=D b0 c1' c2' c3':=by unfold D;simp [h,h']
theorem Nz (b0:Nat) {c1 c2 c3 c2' c3':Option Nat}(h:ct c2=false) (h':ct c2'=false):D b0 c1 c2 c3=D b0 c1 c2' c3':=by unfold D;simp [h,h']
theorem Ny (b0:Nat) {c1 c2 c3 c3':Option Nat}(h:ct c3=false) (h':ct c3'=false):D b0 c1 c2 c3=D b0 c1 c2 c3':=by unfold D;simp [h,h']
theorem B9 (a c:ByteArray) (h:ct (ob c 0)=false) (i:Nat) (hi:i<a.size):Utf8.decode (a++c) i=Utf8.decode a i:=by
 have hin:∀j,j<a.size->ob (a++c) j=ob a j:=fun j hj=>by rw [oX,IO hj]
 have hat:ob (a++c) a.size=ob c 0:=by rw [oX,Eq (by omega),TS]
 have hno:ct (ob a a.size)=false:=by unfold ob;rw [Eq (by omega)];rfl
 rw [bX,bX,bN,IO hi]
 by_cases h1:i+1=a.size
 ·exact NA _ (by rw [h1,hat];exact h) (by rw [h1];exact hno)
 ·rw [hin (i+1) (by omega)]
  by_cases h2:i+2=a.size
  ·exact Nz _ (by rw [h2,hat];exact h) (by rw [h2];exact hno)
  ·rw [hin (i+2) (by omega)]
   by_cases h3:i+3=a.size
   ·exact Ny _ (by rw [h3,hat];exact h) (by rw [h3];exact hno)
   ·rw [hin (i+3) (by omega)]
theorem ef (a c:ByteArray) (i:Nat):gd (a++c) (a.size+i)=gd c i/\dp (a++c) (a.size+i)=dp c i/\dw (a++c) (a.size+i)=dw c i:=by
 unfold gd dp dw;rw [xR a c i];exact ⟨rfl,rfl,rfl⟩
theorem xu (a c t:ByteArray) (i:Nat):pre (a++c) (a.size+i) t=pre c i t:=by
 have hz:=br a c
 by_cases h:i+t.size<=c.size
 ·rw [D0 (by omega),D0 h]
  have:(a++c).extract (a.size+i) (a.size+i+t.size)=c.extract i (i+t.size):=by
   refine eX _ _ (by rw [az _ _ _ (by omega),az _ _ _ h];omega) (fun j hj=>?_);rw [az _ _ _ (by omega)] at hj;rw [aR _ _ _ _ (by omega),aR _ _ _ _ (by omega),bN,Eq (by omega)]
   congr 1;omega
  rw [this]
 ·rw [yT (by omega),yT h]
theorem qG (a c:ByteArray) (i:Nat):sg (a++c) (a.size+i)=sg c i:=by
 unfold sg;rw [show pre (a++c) (a.size+i)=pre c i from funext (xu a c · i)]
theorem dP (a c:ByteArray) (i:Nat):ay (a++c) (a.size+i)=ay c i:=by
 rw [bN,Eq (by omega)];congr 1;omega
theorem pY (a c:ByteArray) (i:Nat):ak (a++c) (a.size+i)=ak c i:=by
 have hz:=br a c;unfold ak;rw [(ef a c i).1,(ef a c i).2.1,dP,qG,show a.size+i+1=a.size+(i+1) by omega,dP];have:(ay c i=47/\a.size+(i+1)<(a++c).size/\ay c (i+1)=47)↔(ay c i=47/\i+1<c.size/\ay c (i+1)=47):=by rw [hz];constructor <;> rintro ⟨h1,h2,h3⟩ <;> exact ⟨h1,by omega,h3⟩
 simp only [this]
def Rd.up (n:Nat):Rd->Rd
 |.out p e=>.out (n+p) e
 |.on k=>.on k
theorem rQ {g g':Nat->Nat->Rd}{z n:Nat}(hg:fY g z) (hg':fY g' (n+z)) (h:∀b k,b<=z->g' (n+b) k=(g b k).up n) :
  ∀(d a m:Nat),z-a<=d->a<=z->run g' (n+z) (n+a) m=(n+(run g z a m).1,(run g z a m).2)
 |d,a,m,hd,ha=>by
  have e0:=h a m ha;cases e:g a m with
  |out p q=>
   rw [e] at e0;rw [cj ha e,cj (by omega) e0]
  |on k=>
   rw [e] at e0;obtain ⟨h3,h4⟩:=hg a m k e;rw [fy hg ha e,fy hg' (by omega) e0,Sh];cases d with
   |zero=>omega
   |succ d=>exact rQ hg hg' h d (a+k) (m+1) (by omega) h4
theorem pO (a c:ByteArray) (i k:Nat) (hi:i<c.size):ap (a++c) (a.size+i) k=(a.size+(ap c i k).1,(ap c i k).2):=by
 have hz:=br a c
 have hQ:∀q o,run (cq (a++c) (a.size+i) q o) (a++c).size (a.size+i+1) 0=(a.size+(run (cq c i q o) c.size (i+1) 0).1,(run (cq c i q o) c.size (i+1) 0).2):=by
  intro q o;have h1:=eS (a++c) (a.size+i) q o;rw [hz] at h1 ⊢;refine rQ (eS c i q o) h1 (fun b m hb=>?_) _ (i+1) 0 (gt _) hi;unfold cq gi;rw [dP,(ef a c b).1,(ef a c b).2.1,(ef a c b).2.2,hz];rw [show a.size+b+dw c b-(a.size+i)=b+dw c b-i by omega];simp only [TX]
  repeat' split
  all_goals rfl
 have hC:∀o,run (bF (a++c) (a.size+i) o) (a++c).size (a.size+i) 0=(a.size+(run (bF c i o) c.size i 0).1,(run (bF c i o) c.size i 0).2):=by
  intro o;have h1:=cY (a++c) (a.size+i) o;rw [hz] at h1 ⊢;refine rQ (cY c i o) h1 (fun b m hb=>?_) _ i 0 (gt _) (RO hi);unfold bF;rw [dP,hz];rw [show a.size+b+1-(a.size+i)=b+1-i by omega];simp only [TX]
  repeat' split
  all_goals rfl
 have hR:run (cf (a++c) (a.size+i) k) (a++c).size (a.size+i) 0=(a.size+(run (cf c i k) c.size i 0).1,(run (cf c i k) c.size i 0).2):=by
  have h1:=cX (a++c) (a.size+i) k;rw [hz] at h1 ⊢;refine rQ (cX c i k) h1 (fun b m hb=>?_) _ i 0 (gt _) (RO hi);unfold cf;rw [dP,(ef a c b).1,(ef a c b).2.1,(ef a c b).2.2,hz];rw [show a.size+b+dw c b-(a.size+i)=b+dw c b-i by omega];simp only [TX]
  repeat' split
  all_goals rfl
 unfold ap;rw [hQ,hQ,hC,hC,hR,qG]
 repeat' split
 all_goals first|rfl|(rw [Sh])
theorem pK (a c:ByteArray) (i p:Nat) (hp:p<=c.size):(a++c).extract (a.size+i) (a.size+p)=c.extract i p:=by
 have hz:=br a c;refine eX _ _ (by rw [az _ _ _ (by omega),az _ _ _ hp];omega) (fun j hj=>?_);rw [az _ _ _ (by omega)] at hj;rw [aR _ _ _ _ (by omega),aR _ _ _ _ (by omega),bN,Eq (by omega)]
 congr 1;omega
theorem mf (a c:ByteArray) (j:Nat) (hj:cQ (ay c j)=false):∀p,j<p->aY (a++c) (a.size+p)=a.size+aY c p
 |0,h=>by omega
 |p+1,h=>by
  rw [show a.size+(p+1)=(a.size+p)+1 by omega];unfold aY;rw [dP]
  by_cases e:cQ (ay c p)=true
  ·rw [IO e,IO e];refine mf a c j hj p ?_
   rcases Uf j p with h2|h2
   ·exact h2
   ·rw [show j=p by omega,e] at hj;cases hj
  ·rw [Eq e,Eq e];omega
def Tk.up (n:Nat) (t:Tk):Tk:=⟨t.k,n+t.a,n+t.e,t.f⟩
theorem wT (a c:ByteArray) (k i p f:Nat) (hi:cQ (ay c i)=false) (hp:i<p) (hz:p<=c.size):cM (a++c) k (a.size+i) (a.size+p) f=(cM c k i p f).up a.size:=by
 unfold cM Tk.up;rw [pK a c i p hz,mf a c i hi p hp]
 congr 1
 split <;> rfl
theorem fU (a c:ByteArray):∀(d i f:Nat),c.size-i<=d->gS (a++c) (a.size+i) f=((gS c i f).1.map (Tk.up a.size),(gS c i f).2.1,if (gS c i f).2.1=0 then 0 else a.size+(gS c i f).2.2)
 |d,i,f,hd=>by
  have hz:=br a c
  by_cases h:i<c.size
  ·cases d with
   |zero=>omega
   |succ d=>
    rw [ci (a++c) (a.size+i) f (by omega),ci c i f h,dP,pY,pO a c i _ h]
    by_cases h1:ay c i=10
    ·rw [IO h1,IO h1,Sh];exact fU a c d (i+1) (f+1) (by omega)
    ·rw [Eq h1,Eq h1]
     by_cases h2:cQ (ay c i)=true
     ·rw [IO h2,IO h2,Sh];exact fU a c d (i+1) f (by omega)
     ·rw [Eq h2,Eq h2]
      by_cases h3:ak c i=0
      ·rw [IO h3,IO h3];rfl
      ·rw [Eq h3,Eq h3]
       by_cases h4:(ap c i (ak c i)).2≠0
       ·rw [IO h4,IO h4];show _=(_,_,if (ap c i (ak c i)).2=0 then 0 else _);rw [Eq h4];rfl
       ·rw [Eq h4,Eq h4];have h5:=ej c i (ak c i) (ap c i (ak c i)).1 h rfl h3 (UJ rfl (by simpa using h4));have h6:=fU a c d (ap c i (ak c i)).1 0 (by omega);show (cM (a++c) _ _ (a.size+(ap c i (ak c i)).1) f :: (gS (a++c) (a.size+(ap c i (ak c i)).1) 0).1,(gS (a++c) (a.size+(ap c i (ak c i)).1) 0).2)=_;rw [h6,wT a c _ i _ f (by simpa using h2) h5.1 h5.2];rfl
  ·rw [eC (a++c) (a.size+i) f (by omega),eC c i f (by omega)];rfl
theorem pH {f g:ByteArray->Bool}:∀l:List ByteArray,(∀x∈l,f x=g x)->l.find? f=l.find? g
 |[],_=>rfl
 |x :: l,h=>by
  rw [List.find?_cons,List.find?_cons,h x (QN ..),pH l (fun y hy=>h y (QO _ hy))]
theorem Dq:∀x∈bh,x.size=1\/(x.size=2/\ay x 1≠10):=by decide
theorem rc (a c:ByteArray) (i p:Nat) (hp:p<=a.size):(a++c).extract i p=a.extract i p:=by
 have hz:=br a c;refine eX _ _ (by rw [az _ _ _ (by omega),az _ _ _ hp]) (fun j hj=>?_);rw [az _ _ _ (by omega)] at hj;rw [aR _ _ _ _ (by omega),aR _ _ _ _ (by omega),bN,IO (by omega)]
theorem eh (a c:ByteArray) (i:Nat) (hi:i<a.size):ay (a++c) i=ay a i:=by rw [bN,IO hi]
def dO:ByteArray:=⟨#[10]⟩
theorem yK (s:ByteArray) (f k b m p:Nat) (h:cf s f k b m=.out p 0):b<=p:=by
 unfold cf at h
 repeat' split at h
 all_goals cases h
 all_goals exact gt _
theorem Io (s:ByteArray) (f q:Nat) (o:Bool) (b m p:Nat) (h:cq s f q o b m=.out p 0):b<=p:=by
 unfold cq at h
 repeat' split at h
 all_goals cases h
 all_goals omega
theorem zY (s:ByteArray) (f:Nat) (o:Bool) (b m p:Nat) (h:bF s f o b m=.out p 0):b<=p:=by
 unfold bF at h
 repeat' split at h
 all_goals cases h
 all_goals omega
end Go.Proofs.YtjiepkenkcgkhaaGreatDoor.Lx
