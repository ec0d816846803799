import Derived.Deep.RegionWith
import Derived.Deep.RegionHeld3
import Derived.WalkMore
import Derived.ScopeJumps
import Derived.Shelf.Strings.SlTrimAscii
import Derived.Shelf.Strings.Runes
import Derived.Shelf.Small.Utf8
import Derived.Shelf.LaysM
import Derived.Shelf.Strconv.Clone
import Derived.Shelf.Strings.Search1
import Derived.Laws.Runes
import Derived.Test.YthfjlkfeeglfmaaGreatDoorM03
set_option linter.all false
set_option maxHeartbeats 2000000
set_option maxRecDepth 1000000
namespace Go.Proofs.YthfjlkfeeglfmaaGreatDoor.Lx
open Go.Proofs.Tryz
open Go.RowKit Go.Shelf
variable {s R:ByteArray}{a g b f:Nat}{W w0:World}{p n:Int}{l:List Tv}{v:Value}
def qD (w:World) :
  Sa 65 #[] w λe w'=>Uk e (.agg #[Tu 0,Tu 1,Tu 1])/\Se w w':=by
 go_enter func65,ntmps65;go_wp2
 have u:=bO.new w 0 1 1;have G:=u.cell0;have H:=u.cell1;have I:=u.cell2;refine R0 (v:=.agg #[Tu 0,Tu 1,Tu 1]) (by simp[results,Tryz.f65,go_sem,G,H,I]) rfl ?_;exact⟨rfl,(gt _ _).alloc (ge _) _⟩
def BG (G u c0:Int) (s:ByteArray) (w:World) (I:s.size<=2147483647) (H:-9223372036854775808<=u/\u<=9223372036854775807) :
  Sa 76 #[.agg #[Tu G,Tu u,Tu c0],.string s] w λe w'=>Uk e (.agg #[Tu (MC G s),Tu (eP u s),Tu (jC c0 s)])/\Se w w':=
 LV G u c0 s w I H
def Pe (s:ByteArray) (n:Nat) (w:World) (hs:s.size<=2147483647) (Y:n<=s.size) :
  Sa 32 #[.string s,Tu n] w λe w'=>Uk e (.tuple #[.agg #[Tu (MC 0 (s.extract 0 n)),Tu (eP 1 (s.extract 0 n)),Tu (jC 1 (s.extract 0 n))],Tu 0])/\Below w.heap.size w w':=by
 have Z:=aE s 0 n Y;have G:∀w,Sa 76 #[.agg #[Tu 0,Tu 1,Tu 1],.string (s.extract 0 n)] w λe w'=>Uk e (.agg #[Tu (MC 0 (s.extract 0 n)),Tu (eP 1 (s.extract 0 n)),Tu (jC 1 (s.extract 0 n))])/\Below w.heap.size w w':=λw=>BG 0 1 1 _ w (by omega) (by omega)
 obtain⟨a,Q⟩:=ea (MC 0 (s.extract 0 n));obtain⟨l,hl⟩:∃a,eP 1 (s.extract 0 n)=a:=⟨_,rfl⟩;obtain⟨c,hc⟩:∃a,jC 1 (s.extract 0 n)=a:=⟨_,rfl⟩;simp only[Q,hl,hc]at G ⊢;clear Q hl hc Z;have h1:¬((n:Int)<0):=by omega
 have h2:¬((s.size:Int)<(n:Int)):=by omega
 have M:=bO.new w 0 0 0;go_enter func32,ntmps32;go_wp2
 go_region_with (first|(go_at_call 65;refine(qD _).mono ?_;rintro e w1⟨rfl,H⟩;have O:=M.drew.below H)|(go_at_call 76;refine(G _).mono ?_;rintro e w2⟨rfl,hb2⟩;have u:=O.below hb2;have g0:=u.cell0;have g1:=u.cell1;have g2:=u.cell2;have f0:=u.frozen 0;have f1:=u.frozen 1;have f2:=u.frozen 2))
 all_goals go_wp2
 all_goals
  have I:=((u.set0 a).set1 l).set2 c;have m0:=I.cell0;have m1:=I.cell1;have m2:=I.cell2;refine R0 (v:=.tuple #[.agg #[Tu a,Tu l,Tu c],Tu 0]) (by simp[results,Tryz.f32,go_sem,m0,m1,m2]) rfl ?_;refine⟨rfl,?_⟩;have J:Below w.heap.size w (w.alloc (Obj.cells #[Tu 0,Tu 0,Tu 0] 45)):=(gt _ _).alloc (ge _) _;have S:=(J.drew.trans (H.mono J.size)).trans (hb2.mono (PI J.size H.size));exact((S.setCell (p:=⟨w.heap.size,0,none⟩) (ge _) _).setCell (p:=⟨w.heap.size,1,none⟩) (ge _) _).setCell (p:=⟨w.heap.size,2,none⟩) (ge _) _
open Go.RowKit
def aY (s:ByteArray) (a:Nat):Int:=if a<s.size then(dp s a:Int)else -1
def eH (s:ByteArray) (a:Nat):Nat:=if a<s.size then dw s a else 0
def fZ (h:a<s.size):aY s a=dp s a:=by unfold aY;rw[Or h]
def kr (h:s.size<=a):aY s a=-1:=by unfold aY;rw[Eq (by omega)]
def bW (h:a<s.size):eH s a=dw s a:=by unfold eH;rw[Or h]
def fO (h:s.size<=a):eH s a=0:=by unfold eH;rw[Eq (by omega)]
def E4 (s:ByteArray) (a:Nat) (h:a<=s.size):a+eH s a<=s.size:=by
 by_cases e:a<s.size
 ·rw[bW e];exact(aQ s a e).2.2
 ·rw[fO (by omega)];exact h
def Ab (s:ByteArray) (a:Nat):-1<=aY s a/\aY s a<=1114111:=by
 unfold aY;have:=wW s a
 split<;>omega
def RB (W:World) (g:Nat) (s:ByteArray) (a:Nat) (p n:Int) (b:Nat) (f:Nat) (v:Value):Prop:=
 W.heap[g]?=some (.cells #[.string s,Tu a,.int .i32 p,Tu n,Tu b,Tu (pL s b),Tu (pC s b),Tu f,v] 147 (0,0))
structure Rq (w0 W:World) (g:Nat) (s:ByteArray) (a:Nat) (p n:Int) (b f:Nat) (l:List Tv):Prop where
 bel:Below w0.heap.size w0 W
 g0:w0.heap.size<=g
 blk:∃v,RB W g s a p n b f v/\Rt w0.heap.size W v l
def Rs (w0 W:World) (g:Nat) (s:ByteArray) (a b f:Nat) (l:List Tv):Prop:=Rq w0 W g s a (aY s a) (eH s a) b f l
def Rq.below {W':World}(h:Rq w0 W g s a p n b f l) (u:Below W.heap.size W W'):Rq w0 W' g s a p n b f l:=by
 obtain⟨G,H,v,I,J⟩:=h;exact⟨G.trans (u.mono G.size),H,v,af I u,J.below u⟩
def Rq.set {w0 W:World}{g:Nat}{s:ByteArray}{a:Nat}{p n:Int}{b f:Nat}{l:List Tv}{v:Value}(J:Below w0.heap.size w0 W) (M:w0.heap.size<=g) (H:RB W g s a p n b f v) (I:Rt w0.heap.size W v l) (k:Nat) (u:Value)
  {s':ByteArray} {a':Nat} {p' n':Int} {G f':Nat} {v':Value} (O:#[.string s,Tu a,.int .i32 p,Tu n,Tu b,Tu (pL s b),Tu (pC s b),Tu f,v].setIfInBounds k u=#[.string s',Tu a',.int .i32 p',Tu n',Tu G,Tu (pL s' G),Tu (pC s' G),Tu f',v']) (Q:v'=v) :
  Below w0.heap.size w0 (W.setCell ⟨g,k,none⟩ u)/\RB (W.setCell ⟨g,k,none⟩ u) g s' a' p' n' G f' v'/\Rt w0.heap.size (W.setCell ⟨g,k,none⟩ u) v' l:=by
 refine⟨J.setCell (p:=(Tw g k)) M u,?_,?_⟩
 ·have:=ag H k u;rw[O]at this;exact this
 ·rw[Q];exact I.kp (Kp.set W g k u) (I.ne H (by decide))
def Rq.cells {W:World}{g:Nat}{s:ByteArray}{a:Nat}{p n:Int}{b f:Nat}{v:Value}(h:RB W g s a p n b f v) :
  W.cell? (Tw g 0)=some (.string s)/\W.cell? (Tw g 1)=some (Tu a)/\W.cell? (Tw g 2)=some (.int .i32 p)/\W.cell? (Tw g 3)=some (Tu n)/\W.cell? (Tw g 4)=some (Tu b) /\
  W.cell? (Tw g 5)=some (Tu (pL s b))/\W.cell? (Tw g 6)=some (Tu (pC s b))/\W.cell? (Tw g 7)=some (Tu f)/\W.cell? (Tw g 8)=some v:=
 ⟨aa h rfl,aa h rfl,aa h rfl,aa h rfl,aa h rfl,aa h rfl,aa h rfl,aa h rfl,aa h rfl⟩
def RB.frozen {W:World}{g:Nat}{s:ByteArray}{a:Nat}{p n:Int}{b f:Nat}{v:Value}(h:RB W g s a p n b f v) (k:Nat):W.frozen? (Tw g k)=false:=aj h
def PX (p q:Int):(false||decide (p=q))=(p==q):=by rw[Ty];simp
def bG (p:Int) (w:World) :
  Sa 128 #[.int .i32 p] w λe w'=>Uk e (.bool (decide (48<=p)&&decide (p<=57)))/\w'=w:=by
 by_cases h:48<=p
 ·have e:(decide (48<=p)&&decide (p<=57))=decide (p<=57):=by rw[R8 h];rfl
  rw[e];clear e;go_enter func128,ntmps128;(go_wp2_with fail);go_ret;exact⟨rfl,rfl⟩
 ·have e:(decide (48<=p)&&decide (p<=57))=false:=by rw[R9 h];rfl
  rw[e];clear e;go_enter func128,ntmps128;(go_wp2_with fail);go_ret;exact⟨rfl,rfl⟩
def eF (p:Int) (w:World) :
  Sa 195 #[.int .i32 p] w λe w'=>Uk e (.bool (decide (p<32)||decide (p=127)))/\w'=w:=by
 by_cases h:p<32
 ·have e:(decide (p<32)||decide (p=127))=true:=by rw[R8 h];rfl
  rw[e];clear e;go_enter func195,ntmps195;(go_wp2_with fail);go_ret;exact⟨rfl,rfl⟩
 ·have e:(decide (p<32)||decide (p=127))=(p==127):=by rw[R9 h];exact PX _ _
  rw[e];clear e;go_enter func195,ntmps195;(go_wp2_with fail);go_ret;exact⟨rfl,rfl⟩
def cR (p:Int) (w:World) :
  Sa 194 #[.int .i32 p] w λe w'=>Uk e (.bool (decide (p=10)||decide (p=-1)))/\w'=w:=by
 by_cases h:p=10
 ·subst h;go_enter func194,ntmps194;(go_wp2_with fail);go_ret;exact⟨rfl,rfl⟩
 ·have e:(decide (p=10)||decide (p=-1))=(p == -1):=by rw[R9 h];exact PX _ _
  have u:(p==10)=false:=by simpa using h
  rw[e];clear e h;go_enter func194,ntmps194;(go_wp2_with fail);go_ret;exact⟨rfl,rfl⟩
def we (h:Rq w0 W g s a p n b f l) (hs:s.size<=2147483647) (ha:a<=s.size) :
  Sa 66 #[.pointer (some (Tw g 0))] W λe w'=>Uk e (.tuple #[])/\Rs w0 w' g s a b f l:=by
 obtain⟨S,I,v,H,h4⟩:=h;obtain⟨c0,c1,c2,c3,c4,c5,c6,c7,c8⟩:=Rq.cells H
 by_cases Q:a<s.size
 ·have hd:=wW s a;obtain⟨ab,ac,ad⟩:=aQ s a Q
  have HN:Hid (∀w,Sa 123 #[.string s,Tu a] w λe w'=>Uk e (.tuple #[Tu (dp s a),Tu (dw s a),.bool (gd s a)])/\Se w w'):=λw=>by
   have:=AB s a w (by unfold maxLen;omega) (by omega) (by omega);rw[Tg]at this;exact this
  have HR:Hid (∀w',Se W w'->Se w0 w'/\RB w' g s a p n b f v/\Rt w0.heap.size w' v l):=λw' M=>⟨S.trans (M.mono S.size),af H M,h4.below M⟩
  have Z:Hid (∀V,Se W V->V.cell? (Tw g 0)=some (.string s)/\V.cell? (Tw g 1)=some (Tu a)/\Se W V):=λV J=>⟨aa (af H J) rfl,aa (af H J) rfl,J⟩
  have e1:=fZ Q;have e2:=bW Q;have Y:Hid (aY s a=dp s a/\eH s a=dw s a):=⟨e1,e2⟩;generalize dp s a=x at *;generalize dw s a=y at *;generalize gd s a=z at *;clear e1 e2 S H h4 c0 c1 c2 c3 c4 c5 c6 c7 c8;go_enter func66,ntmps66;(go_wp2_with fail)
  go_region_held3 (λw'=>w'.cell? (Tw g 0)=some (.string s)/\w'.cell? (Tw g 1)=some (Tu a)/\Se W w') (first|(exact Z.out _ (by assumption))|(exact Z.out _ (gt _ _).drew)|go_keep) (first|(go_at_call 123;refine(HN.out _).mono ?_;rintro e w1⟨rfl,G⟩;have O:=(by first|exact(gt W.heap.size W).drew.trans (G.mono (ge _))|exact(by assumption:Se W _).trans (G.mono (U2 (by assumption))):Se W w1)))
  all_goals(
   obtain⟨k1,u,k4⟩:=HR.out _ O;have z2:=u.frozen 2;have z3:=u.frozen 3;obtain⟨_,_,c2,c3,_⟩:=Rq.cells u;obtain⟨m1,m3,m4⟩:=Rq.set k1 I u k4 2 (.int .i32 x) (p':=x) rfl rfl;obtain⟨n1,n3,n4⟩:=Rq.set m1 I m3 m4 3 (Tu y) (n':=y) rfl rfl;have HF:Hid (Rs w0 ((w1.setCell ⟨g,2,none⟩ (.int .i32 x)).setCell ⟨g,3,none⟩ (Tu y)) g s a b f l):=⟨n1,I,v,by rw[Y.out.1,Y.out.2];exact n3,n4⟩;clear k1 u k4 m1 m3 m4 n1 n3 n4;(go_wp2_with fail);go_end0;exact⟨rfl,HF.out⟩)
 ·have HN:Hid (∀w,Sa 123 #[.string s,Tu a] w λe w'=>Uk e (.tuple #[Tu 0,Tu 0,.bool false])/\Se w w'):=λw=>vW s a w (by unfold maxLen;omega) (.inr (by omega))
  have HR:Hid (∀w',Se W w'->Se w0 w'/\RB w' g s a p n b f v/\Rt w0.heap.size w' v l):=λw' M=>⟨S.trans (M.mono S.size),af H M,h4.below M⟩
  have Z:Hid (∀V,Se W V->V.cell? (Tw g 0)=some (.string s)/\V.cell? (Tw g 1)=some (Tu a)/\Se W V):=λV J=>⟨aa (af H J) rfl,aa (af H J) rfl,J⟩
  have Y:Hid (aY s a=-1/\eH s a=0):=⟨kr (by omega),fO (by omega)⟩;clear S H h4 c0 c1 c2 c3 c4 c5 c6 c7 c8;go_enter func66,ntmps66;(go_wp2_with fail)
  go_region_held3 (λw'=>w'.cell? (Tw g 0)=some (.string s)/\w'.cell? (Tw g 1)=some (Tu a)/\Se W w') (first|(exact Z.out _ (by assumption))|(exact Z.out _ (gt _ _).drew)|go_keep) (first|(go_at_call 123;refine(HN.out _).mono ?_;rintro e w1⟨rfl,G⟩;have O:=(by first|exact(gt W.heap.size W).drew.trans (G.mono (ge _))|exact(by assumption:Se W _).trans (G.mono (U2 (by assumption))):Se W w1)))
  all_goals(
   obtain⟨k1,u,k4⟩:=HR.out _ O;have z2:=u.frozen 2;have z3:=u.frozen 3;obtain⟨_,_,c2,c3,_⟩:=Rq.cells u;obtain⟨m1,m3,m4⟩:=Rq.set k1 I u k4 2 (.int .i32 0) (p':=0) rfl rfl;obtain⟨n1,n3,n4⟩:=Rq.set m1 I m3 m4 3 (Tu 0) (n':=0) rfl rfl;obtain⟨o1,o3,o4⟩:=Rq.set n1 I n3 n4 2 (.int .i32 (-1)) (p':=-1) rfl rfl;have HF:Hid (Rs w0 (((w1.setCell ⟨g,2,none⟩ (.int .i32 0)).setCell ⟨g,3,none⟩ (Tu 0)).setCell ⟨g,2,none⟩ (.int .i32 (-1))) g s a b f l):=⟨o1,I,v,by rw[Y.out.1,Y.out.2];exact o3,o4⟩;clear k1 u k4 m1 m3 m4 n1 n3 n4 o1 o3 o4;(go_wp2_with fail);go_end0;exact⟨rfl,HF.out⟩)
def dv (W:World) (m:Nat):Below W.heap.size W (W.drewN m):=dh (gt _ _) m
def jy (h:RB W g s a p n b f v) (J:s.size<=2147483647) (u:b<=a) (I:a<=s.size) :
  Sa 197 #[.pointer (some (Tw g 0))] W λe w'=>Uk e (.string (s.extract b a))/\∃m,w'=W.drewN m:=by
 obtain⟨c0,c1,c2,c3,c4,c5,c6,G,H⟩:=Rq.cells h;have M:(b:Int)<=a:=by omega
 have O:(a:Int)<=s.size:=by omega
 clear h;go_enter func197,ntmps197;(go_wp2_with fail)
 go_quiet (fail)
 (go_wp2_with fail);go_ret;exact⟨rfl,_,rfl⟩
def ce (h:Rs w0 W g s a b f l) (S:s.size<=2147483647) (Q:a<=s.size) :
  Sa 188 #[.pointer (some (Tw g 0))] W λe w'=>Uk e (.tuple #[])/\Rs w0 w' g s (a+eH s a) b f l:=by
 have G:=E4 s a Q;obtain⟨H,I,v,u,J⟩:=h;obtain⟨c0,c1,c2,c3,c4,c5,c6,c7,c8⟩:=Rq.cells u;have z1:=u.frozen 1;obtain⟨m1,m3,m4⟩:=Rq.set H I u J 1 (Tu ((a+eH s a:Nat):Int)) (a':=a+eH s a) rfl rfl;have Y:IntKind.i64.wrap ((a:Int)+(eH s a:Int))=(a:Int)+(eH s a:Int):=by rw[Sn];omega
 have HL:Hid (∀V,Below (W.setCell ⟨g,1,none⟩ (Tu ((a:Int)+(eH s a:Int)))).heap.size (W.setCell ⟨g,1,none⟩ (Tu ((a:Int)+(eH s a:Int)))) V->Sa 66 #[.pointer (some (Tw g 0))] V λe w'=>Uk e (.tuple #[])/\Rs w0 w' g s (a+eH s a) b f l):=by
  intro V O;rw[WF]at m1 m3 m4;exact we (Rq.below ⟨m1,I,v,m3,m4⟩ O) S G
 generalize eH s a=y at *;clear H u J m1 m3 m4;go_enter func188,ntmps188;(go_wp2_with fail)
 go_region_law (fail)
 all_goals(
  go_wp2_with(go_at_call 66;refine(HL.out _ (gt _ _).drew).mono ?_;rintro e Z⟨rfl,M⟩)
  go_end0;exact⟨rfl,M⟩)
def fD {n:Nat}(h:RB W g s a p n b f v) (S:s.size<=2147483647) (J:b<=a) (O:a<=s.size) (hn:n<=4) :
  Sa 193 #[.pointer (some (Tw g 0))] W λe w'=>Uk e (.bool (decide (65535<a+n-b)))/\Se W w':=by
 have Q:Hid (∀V,Se W V->Sa 197 #[.pointer (some (Tw g 0))] V λe w'=>Uk e (.string (s.extract b a))/\Se V w'):=λV G=>by
  refine(jy (af h G) S J O).mono ?_;rintro e w'⟨rfl,m,rfl⟩;exact⟨rfl,dv _ _⟩
 have M:Hid (∀V,Se W V->V.cell? (Tw g 3)=some (Tu n)/\Se W V):=λV G=>⟨aa (af h G) rfl,G⟩
 have H:(s.extract b a).size=a-b:=aE s b a O;have e:decide (65535<a+n-b)=decide (((s.extract b a).size:Int)+n>65535):=by rw[SZ,H];omega
 rw[e];have Z:IntKind.i64.wrap (((s.extract b a).size:Int)+(n:Int))=((s.extract b a).size:Int)+(n:Int):=by rw[Sn,H];omega
 clear e h H;generalize s.extract b a=t at *;go_enter func193,ntmps193;(go_wp2_with fail)
 go_region_held3 (λw'=>w'.cell? (Tw g 3)=some (Tu n)/\Se W w') (first|(exact M.out _ (by assumption))|(exact M.out _ (gt _ _).drew)|go_keep) (first|(go_at_call 197;refine(Q.out _ (by first|assumption|exact(gt _ _).drew)).mono ?_;rintro e Y⟨rfl,u⟩;have I:=(by first|exact(gt W.heap.size W).drew.trans (u.mono (ge _))|exact(by assumption:Se W _).trans (u.mono (U2 (by assumption))):Se W Y)))
 all_goals(
  (go_wp2_with fail);go_ret;exact⟨rfl,I⟩)
def wC (h:RB W g s a p n b f v) (hs:s.size<=2147483647) (S:b<=a) (hb:bd s b) (Z:bd s a) :
  Sa 133 #[.pointer (some (Tw g 0))] W λe w'=>Uk e (Qx a (pL s a) (pC s a))/\Se W w':=by
 have J:=Io Z;obtain⟨j1,j2,j3⟩:=IK hb Z S hs;obtain⟨W1,hW1⟩:=ea (W.alloc (.cells #[Tu 0,Tu 0,Tu 0] 45));have u:Se W W1:=by rw[<-hW1];exact(gt _ _).alloc (ge _) _
 have k0:bO W1 W.heap.size 0 0 0:=by rw[<-hW1];exact bO.new W 0 0 0
 have HB:Hid (∀V,Se W V->Sa 197 #[.pointer (some (Tw g 0))] V λe w'=>Uk e (.string (s.extract b a))/\Se V w'):=λV I=>by
  refine(jy (af h I) hs S J).mono ?_;rintro e w'⟨rfl,m,rfl⟩;exact⟨rfl,dv _ _⟩
 have HA:Hid (∀V,Sa 76 #[.agg #[Tu b,Tu (pL s b),Tu (pC s b)],.string (s.extract b a)] V λe w'=>Uk e (.agg #[Tu a,Tu (pL s a),Tu (pC s a)])/\Se V w'):=λV=>by
  have:=BG b (pL s b) (pC s b) (s.extract b a) V (by rw[aE s b a J];omega) (Pc s b);rw[j1,j2,j3]at this;exact this
 have Y:Hid (∀V,Se W V->V.cell? (Tw g 4)=some (Tu b)/\V.cell? (Tw g 5)=some (Tu (pL s b))/\V.cell? (Tw g 6)=some (Tu (pC s b))/\Se W V):=λV I=>⟨aa (af h I) rfl,aa (af h I) rfl,aa (af h I) rfl,I⟩
 clear h j1 j2 j3;unfold Qx;generalize s.extract b a=t at *;generalize pL s a=L2 at *;generalize pC s a=C2 at *;generalize pL s b=L at *;generalize pC s b=C at *;go_enter func133,ntmps133;(go_wp2_with fail)
 try rw[hW1]
 clear hW1
 go_region_held3 (λw'=>w'.cell? (Tw g 4)=some (Tu b)/\w'.cell? (Tw g 5)=some (Tu L)/\w'.cell? (Tw g 6)=some (Tu C)/\Se W w') (first|(exact Y.out _ (by assumption))|(exact Y.out _ u.drew)|(exact Y.out _ (((Q.setCell (p:=⟨W.heap.size,0,none⟩) (ge _) _).setCell (p:=⟨W.heap.size,1,none⟩) (ge _) _).setCell (p:=⟨W.heap.size,2,none⟩) (ge _) _))|go_keep) (first|(go_at_call 197;refine(HB.out _ (by first|assumption|exact u.drew)).mono ?_;rintro e w1⟨rfl,M⟩;have k1:=k0.drew.below M;have O:=u.drew.trans (M.mono u.size))|(go_at_call 76;refine(HA.out _).mono ?_;rintro e w2⟨rfl,hb2⟩;have Q:=O.trans (hb2.mono O.size);have G:=k1.below hb2;have g0:=G.cell0;have g1:=G.cell1;have g2:=G.cell2;have f0:=G.frozen 0;have f1:=G.frozen 1;have f2:=G.frozen 2))
 all_goals(
  (go_wp2_with fail);have H:=((G.set0 a).set1 L2).set2 C2;have m0:=H.cell0;have m1:=H.cell1;have m2:=H.cell2;refine R0 (v:=.agg #[Tu a,Tu L2,Tu C2]) (by simp[results,Tryz.f133,go_sem,m0,m1,m2]) rfl ?_;refine⟨rfl,?_⟩;exact((Q.setCell (p:=⟨W.heap.size,0,none⟩) (ge _) _).setCell (p:=⟨W.heap.size,1,none⟩) (ge _) _).setCell (p:=⟨W.heap.size,2,none⟩) (ge _) _)
def JG (h:Rs w0 W g s a b f l) (hs:s.size<=2147483647) (Q:b<=a) (G:bd s b) (ha:bd s a) :
  Sa 126 #[.pointer (some (Tw g 0))] W λe w'=>Uk e (.tuple #[])/\Rs w0 w' g s a a f l:=by
 obtain⟨J,H,v,M,S⟩:=h;have HH:Hid (Sa 133 #[.pointer (some (Tw g 0))] W λe w'=>Uk e (.agg #[Tu a,Tu (pL s a),Tu (pC s a)])/\Se W w'):=wC M hs Q G ha
 have HR:Hid (∀w',Se W w'->(∀k,w'.frozen? (Tw g k)=false)/\(w'.cell? (Tw g 4)=some (Tu b)/\w'.cell? (Tw g 5)=some (Tu (pL s b))/\w'.cell? (Tw g 6)=some (Tu (pC s b)))/\Rs w0 (((w'.setCell ⟨g,4,none⟩ (Tu a)).setCell ⟨g,5,none⟩ (Tu (pL s a))).setCell ⟨g,6,none⟩ (Tu (pC s a))) g s a a f l):=λw' G=>by
  have k1:=J.trans (G.mono J.size);have I:RB w' g s a (aY s a) (eH s a) b f v:=af M G;have Y:=S.below G;obtain⟨c0,c1,c2,c3,c4,c5,c6,c7,c8⟩:=Rq.cells I;refine⟨λk=>I.frozen k,⟨c4,c5,c6⟩,?_⟩;have u:=Y.ne I (by decide);refine⟨((k1.setCell (p:=(Tw g 4)) H _).setCell (p:=(Tw g 5)) H _).setCell (p:=(Tw g 6)) H _,H,v,?_,?_⟩
  ·exact ag (ag (ag I 4 _) 5 _) 6 _
  ·exact((Y.kp (Kp.set _ g 4 _) u).kp (Kp.set _ g 5 _) u).kp (Kp.set _ g 6 _) u
 clear J M S;generalize pL s a=L2 at *;generalize pC s a=C2 at *;go_enter func126,ntmps126
 go_wp2_with(go_at_call 133;refine HH.out.mono ?_;rintro e w1⟨rfl,O⟩;obtain⟨fz,⟨c4,c5,c6⟩,h7⟩:=HR.out _ O;have Z:Hid (Rs w0 (((w1.setCell ⟨g,4,none⟩ (Tu a)).setCell ⟨g,5,none⟩ (Tu L2)).setCell ⟨g,6,none⟩ (Tu C2)) g s a a f l):=h7;clear h7;have z4:=fz 4;have z5:=fz 5;have z6:=fz 6)
 go_end0;exact⟨rfl,Z.out⟩
def vQ (h:Rs w0 W g s a b f l) (Q:s.size<=2147483647) (O:a<=s.size) (Y:f<=s.size) :
  Sa 125 #[.pointer (some (Tw g 0))] W λe w'=>Uk e (.tuple #[])/\Rs w0 w' g s (a+eH s a) b (if aY s a=10 then f+1 else f) l:=by
 by_cases u:aY s a=10
 ·rw[Or u];obtain⟨H,J,v,G,I⟩:=h;obtain⟨c0,c1,c2,c3,c4,c5,c6,c7,c8⟩:=Rq.cells G;have z7:=G.frozen 7;obtain⟨m1,m3,m4⟩:=Rq.set H J G I 7 (Tu ((f+1:Nat):Int)) (f':=f+1) rfl rfl;rw[WF]at m1 m3 m4;have HL:=aW (ce ⟨m1,J,v,m3,m4⟩ Q O);rw[u]at c2;clear H G I m1 m3 m4 u;go_enter func125,ntmps125
  go_wp2_with(go_at_call 188;refine HL.out.mono ?_;rintro e S⟨rfl,M⟩)
  go_end0;exact⟨rfl,M⟩
 ·rw[Eq u];have HL:=aW (ce h Q O);obtain⟨H,J,v,G,I⟩:=h;obtain⟨c0,c1,c2,c3,c4,c5,c6,c7,c8⟩:=Rq.cells G;have Z:(aY s a==10)=false:=by simpa using u
  clear H G I u;go_enter func125,ntmps125
  go_wp2_with(go_at_call 188;refine HL.out.mono ?_;rintro e S⟨rfl,M⟩)
  go_end0;exact⟨rfl,M⟩
def rK (h:RB W g s a p n b f v) (H:pT W) (J:s.size<=2147483647) (u:b<=a) (I:a<=s.size) :
  Sa 192 #[.pointer (some (Tw g 0))] W λe w'=>Uk e (.int .u8 (if ky (s.extract b a)=true then 2 else 1))/\Se W w':=by
 have G:=aW (jy h J u I)
 have HI:Hid (∀m,Sa 228 #[.string (s.extract b a)] (W.drewN m) λe w'=>Uk e (.bool (ky (s.extract b a)))/\Se W w'):=λm=>by
  refine(CY (s.extract b a) (W.drewN m) (H.below (dv W m)).2.1).mono ?_;rintro e w'⟨rfl,rfl⟩;exact⟨rfl,dv W m⟩
 clear h H;generalize ky (s.extract b a)=k at *;generalize s.extract b a=t at *
 cases k
 ·go_enter func192,ntmps192
  go_wp2_with(first|(go_at_call 197;refine G.out.mono ?_;rintro e M⟨rfl,m,rfl⟩)|(go_at_call 228;refine(HI.out _).mono ?_;rintro e w2⟨rfl,hb2⟩))
  go_ret;exact⟨rfl,hb2⟩
 ·go_enter func192,ntmps192
  go_wp2_with(first|(go_at_call 197;refine G.out.mono ?_;rintro e M⟨rfl,m,rfl⟩)|(go_at_call 228;refine(HI.out _).mono ?_;rintro e w2⟨rfl,hb2⟩))
  go_ret;exact⟨rfl,hb2⟩
def Tryz.lays162_ren:Go.Shelf.Ren:=⟨fun|162=>226|232=>257|227=>258|234=>259|236=>260|228=>275|271=>276|151=>187|120=>292|197=>293|152=>225|260=>301|137=>255|119=>256|224=>253|225=>252|217=>251|266=>273|n=>n,fun|9=>9|4=>4|3=>3|5=>5|117=>317|116=>316|0=>0|124=>320|21=>21|105=>272|46=>189|119=>329|139=>332|138=>331|n=>n,fun|3=>6|4=>7|n=>n⟩
def Tryz.lays162:Go.Proofs.Lays.n162 Tryz.prog Tryz.lays162_ren:={
 mixed:=by kernel_rfl
 f119:=func256.trans (Sh some (by kernel_rfl))
 f120:=func292.trans (Sh some (by kernel_rfl))
 f137:=func255.trans (Sh some (by kernel_rfl))
 f151:=func187.trans (Sh some (by kernel_rfl))
 f152:=func225.trans (Sh some (by kernel_rfl))
 f162:=func226.trans (Sh some (by kernel_rfl))
 f197:=func293.trans (Sh some (by kernel_rfl))
 f217:=func251.trans (Sh some (by kernel_rfl))
 f224:=func253.trans (Sh some (by kernel_rfl))
 f225:=func252.trans (Sh some (by kernel_rfl))
 f227:=func258.trans (Sh some (by kernel_rfl))
 f228:=func275.trans (Sh some (by kernel_rfl))
 f232:=func257.trans (Sh some (by kernel_rfl))
 f234:=func259.trans (Sh some (by kernel_rfl))
 f236:=func260.trans (Sh some (by kernel_rfl))
 f260:=func301.trans (Sh some (by kernel_rfl))
 f266:=func273.trans (Sh some (by kernel_rfl))
 f271:=func276.trans (Sh some (by kernel_rfl))
 t0:=underlying0
 a0:=VK
 z0:=Vq
 v0:=UC
 t3:=underlying3
 a3:=UW
 z3:=UD
 v3:=T3
 t4:=underlying4
 a4:=Vf
 z4:=U3
 v4:=Ul
 t5:=underlying5
 a5:=UE
 z5:=Uq
 v5:=TQ
 t9:=underlying9
 a9:=UX
 z9:=UF
 v9:=T4
 t21:=underlying21
 a21:=Tryz.isAgg21
 z21:=Tryz.sizeOf21
 v21:=WB
 t46:=underlying189
 a46:=Wn
 z46:=Wb
 v46:=Vg
 t105:=underlying272
 a105:=Tryz.isAgg272
 z105:=Tryz.sizeOf272
 v105:=Tryz.zeroValue272
 t116:=underlying316
 a116:=Tryz.isAgg316
 z116:=Tryz.sizeOf316
 t117:=underlying317
 a117:=Tryz.isAgg317
 z117:=Tryz.sizeOf317
 v117:=Tryz.zeroValue317
 t119:=underlying329
 a119:=Tryz.isAgg329
 z119:=Tryz.sizeOf329
 t124:=underlying320
 a124:=Tryz.isAgg320
 z124:=Tryz.sizeOf320
 v124:=Tryz.zeroValue320
 t138:=underlying331
 a138:=Tryz.isAgg331
 z138:=Tryz.sizeOf331
 v138:=Tryz.zeroValue331
 t139:=underlying332
 a139:=Tryz.isAgg332
 z139:=Tryz.sizeOf332
 v139:=Tryz.zeroValue332
 g3:=by kernel_rfl
 g4:=by kernel_rfl }
def Tryz.lays119_ren:Go.Shelf.Ren:=⟨fun|119=>256|n=>n,fun|21=>21|4=>4|n=>n,fun|n=>n⟩
def Tryz.lays119:Go.Proofs.Lays.n119 Tryz.prog Tryz.lays119_ren:={
 mixed:=by kernel_rfl
 f119:=func256.trans (Sh some (by kernel_rfl))
 t4:=underlying4
 a4:=Vf
 z4:=U3
 v4:=Ul
 t21:=underlying21
 a21:=Tryz.isAgg21
 z21:=Tryz.sizeOf21
 v21:=WB }
def Tryz.utf8_ValidRune (r:Int) (w:World) :
  Sa 256 #[.int .i32 r] w λe w'=>Uk e (.bool (Lib.validRune r))/\w'=w:=Any.utf8_ValidRune Tryz.lays119 r w
def Tryz.lays137_ren:Go.Shelf.Ren:=⟨fun|137=>255|217=>251|266=>273|n=>n,fun|9=>9|5=>5|3=>3|n=>n,fun|n=>n⟩
def Tryz.lays137:Go.Proofs.Lays.n137 Tryz.prog Tryz.lays137_ren:={
 mixed:=by kernel_rfl
 f137:=func255.trans (Sh some (by kernel_rfl))
 f217:=func251.trans (Sh some (by kernel_rfl))
 f266:=func273.trans (Sh some (by kernel_rfl))
 t3:=underlying3
 a3:=UW
 z3:=UD
 v3:=T3
 t5:=underlying5
 a5:=UE
 z5:=Uq
 v5:=TQ
 t9:=underlying9
 a9:=UX
 z9:=UF
 v9:=T4 }
def Tryz.strings_IndexByte (s:ByteArray) (c:Int) (w:World) :
  Sa 255 #[.string s,.int .u8 c] w λe w'=>Uk e (Tu (Lib.indexByte s.data.toList c.toNat.toUInt8))/\w'=w:=Any.strings_IndexByte Tryz.lays137 s c w
def Tryz.laysM316_ren:Go.Shelf.Ren:=⟨fun|316=>261|n=>n,fun|9=>9|3=>3|4=>4|37=>117|0=>0|127=>193|5=>5|n=>n,fun|n=>n⟩
def Tryz.laysM316:Go.Proofs.LaysM.n316 Tryz.prog Tryz.laysM316_ren:={
 mixed:=by kernel_rfl
 f316:=func261.trans (Sh some (by kernel_rfl))
 t0:=underlying0
 a0:=VK
 z0:=Vq
 v0:=UC
 t3:=underlying3
 a3:=UW
 z3:=UD
 v3:=T3
 t4:=underlying4
 a4:=Vf
 z4:=U3
 v4:=Ul
 t9:=underlying9
 a9:=UX
 z9:=UF
 v9:=T4
 t37:=underlying117
 a37:=Wo
 z37:=Wc
 v37:=Vh
 t127:=underlying193
 a127:=Tryz.isAgg193
 z127:=Tryz.sizeOf193
 v127:=Wh
 t5:=underlying5
 a5:=UE
 z5:=Uq
 v5:=TQ
 i0:=by kernel_rfl
 i3:=by kernel_rfl
 i4:=by kernel_rfl
 i5:=by kernel_rfl
 i9:=by kernel_rfl
 i37:=by kernel_rfl
 i127:=by kernel_rfl }
def Tryz.stringslite_Clone (s:ByteArray) (w:World) (u:s.size<=281474976710656) :
  Sa 261 #[.string s] w λe w'=>Uk e (.string s)/\Se w w':=Any.stringslite_Clone Tryz.laysM316 s w u
def Tryz.lays151_ren:Go.Shelf.Ren:=⟨fun|151=>187|152=>225|137=>255|119=>256|224=>253|225=>252|217=>251|266=>273|n=>n,fun|9=>9|21=>21|4=>4|3=>3|5=>5|0=>0|46=>189|n=>n,fun|n=>n⟩
def Tryz.lays151:Go.Proofs.Lays.n151 Tryz.prog Tryz.lays151_ren:={
 mixed:=by kernel_rfl
 f119:=func256.trans (Sh some (by kernel_rfl))
 f137:=func255.trans (Sh some (by kernel_rfl))
 f151:=func187.trans (Sh some (by kernel_rfl))
 f152:=func225.trans (Sh some (by kernel_rfl))
 f217:=func251.trans (Sh some (by kernel_rfl))
 f224:=func253.trans (Sh some (by kernel_rfl))
 f225:=func252.trans (Sh some (by kernel_rfl))
 f266:=func273.trans (Sh some (by kernel_rfl))
 t0:=underlying0
 a0:=VK
 z0:=Vq
 v0:=UC
 t3:=underlying3
 a3:=UW
 z3:=UD
 v3:=T3
 t4:=underlying4
 a4:=Vf
 z4:=U3
 v4:=Ul
 t5:=underlying5
 a5:=UE
 z5:=Uq
 v5:=TQ
 t9:=underlying9
 a9:=UX
 z9:=UF
 v9:=T4
 t21:=underlying21
 a21:=Tryz.isAgg21
 z21:=Tryz.sizeOf21
 v21:=WB
 t46:=underlying189
 a46:=Wn
 z46:=Wb
 v46:=Vg }
def Tryz.strings_ContainsRune_ascii (s:ByteArray) (r:Int) (w:World) (u:0<=r) (G:r<128) :
  Sa 187 #[.string s,.int .i32 r] w λe w'=>Uk e (.bool (decide (0<=Lib.indexByte s.data.toList r.toNat.toUInt8)))/\w'=w:=Any.strings_ContainsRune_ascii Tryz.lays151 s r w u G
def DE (s:ByteArray) (w:World) (u:s.size<=2147483647) :
  Sa 227 #[.string s] w λe w'=>Uk e (.string s)/\Below w.heap.size w w':=by
 have HC:=aW (Tryz.stringslite_Clone s w (by omega));go_enter func227,ntmps227
 go_wp2_with(go_at_call 261;refine HC.out.mono ?_;rintro e H⟨rfl,G⟩)
 go_ret;exact⟨rfl,G⟩
def Ea (s:ByteArray) (w:World) (u:s.size<=2147483647) :
  Sa 226 #[.string s,.string ⟨#[32,9,13]⟩] w λe w'=>Uk e (.string ⟨(Lib.trimRightS s.data.toList [32,9,13]).toArray⟩)/\Below w.heap.size w w':=
 Any.strings_TrimRight_laid Tryz.lays162 (by kernel_rfl) s ⟨#[32,9,13]⟩ w (by omega) (by decide) (ascii_of_all (by decide))
def N7 (x:UInt8) (h:128<=x.toNat):Lib.indexByte [13] x=-1:=by
 have u:(13:UInt8)≠x:=by rintro rfl;exact absurd h (by decide)
 have G:((13:UInt8)==x)=false:=by simpa using u
 unfold Lib.indexByte;rw[G];rfl
def Rp (p:Int) (H u:UInt8) (w:World) (Z:128<=p) (O:p≠65533) (S:Lib.validRune p=true) (I:Utf8.encode p=⟨#[H,u]⟩) (Q:128<=u.toNat) :
  Sa 225 #[.string ⟨#[32,9,13]⟩,.int .i32 p] w λe w'=>Uk e (Tu (-1))/\Se w w':=by
 have J:Hid (Sa 256 #[.int .i32 p] w λe w'=>Uk e (.bool true)/\w'=w):=by
  have:=Tryz.utf8_ValidRune p w;rw[S]at this;exact this
 have q1:¬p<128:=by omega
 have q2:(p==65533)=false:=by simpa using O
 have q0:(0:Int)<=p:=by omega
 have w2:IntKind.i64.wrap 2=2:=by decide
 have w3:IntKind.i64.wrap 3=3:=by decide
 have Y:∀w,(convert 21 9 (.int .i32 p)).run Tryz.prog w=.ok (.string ⟨#[H,u]⟩) w:=λw=>by rw[<-I];exact Vb w _ _ _ _ rfl underlying9
 have M:Hid (∀(r:ByteArray) (W:World),r=⟨#[13]⟩->Sa 255 #[.string r,.int .u8 (u.toNat:Int)] W λe w'=>Uk e (Tu (-1))/\w'=W):=by
  rintro r W rfl;have:=Tryz.strings_IndexByte ⟨#[13]⟩ (u.toNat:Int) W;rw[Tg]at this
  have e:Lib.indexByte (⟨#[13]⟩:ByteArray).data.toList u.toNat.toUInt8=-1:=by
   rw[show u.toNat.toUInt8=u from UInt8.ofNat_toNat];exact N7 u Q
  rw[e]at this;exact this
 have q4:((((⟨#[32,9,13]⟩:ByteArray)[1]'(by decide)).toNat:Int) != (((⟨#[H,u]⟩:ByteArray)[1]'(by show 1<2;decide)).toNat:Int))=true:=by
  show((9:Int) != (u.toNat:Int))=true;simp;omega
 clear I;go_enter func225,ntmps225
 go_wp2_with(first|(go_at_call 256;refine J.out.mono ?_;rintro e w1⟨rfl,G⟩;replace G:=G.symm;subst G))
 go_step3
 go_wp2_with fail
 go_loopw [9] (λi wr=>i=Tu 1/\wr=w) (λ_ _=>0)
 case atStart=>exact⟨rfl,rfl⟩
 case round=>
  obtain⟨rfl,G⟩:=hrel;subst G;(go_wp2_with fail)
  go_step3
  go_wp2_with fail
  go_quiet (fail)
  go_wp2_with fail
  go_region_law (go_simp;go_at_call 255;refine(M.out _ _ rfl).mono ?_;rintro e w2⟨rfl,G⟩;replace G:=G.symm;subst G)
  all_goals(
   go_wp2_with fail
   (repeat(first|rw[TR]|simp only[Exit.inBlock]|simp(config:={ zetaDelta:=true }) only[Exit.then,Exit.inBlock,TR]))
   go_ret;exact⟨rfl,dv _ _⟩)
def Rm (p:Int) (H I u:UInt8) (w:World) (Z:128<=p) (Q:p≠65533) (S:Lib.validRune p=true) (J:Utf8.encode p=⟨#[H,I,u]⟩) (hL:128<=u.toNat) :
  Sa 225 #[.string ⟨#[32,9,13]⟩,.int .i32 p] w λe w'=>Uk e (Tu (-1))/\Se w w':=by
 have M:Hid (Sa 256 #[.int .i32 p] w λe w'=>Uk e (.bool true)/\w'=w):=by
  have:=Tryz.utf8_ValidRune p w;rw[S]at this;exact this
 have q1:¬p<128:=by omega
 have q2:(p==65533)=false:=by simpa using Q
 have q0:(0:Int)<=p:=by omega
 have w2:IntKind.i64.wrap 2=2:=by decide
 have w3:IntKind.i64.wrap 3=3:=by decide
 have Y:∀w,(convert 21 9 (.int .i32 p)).run Tryz.prog w=.ok (.string ⟨#[H,I,u]⟩) w:=λw=>by rw[<-J];exact Vb w _ _ _ _ rfl underlying9
 have O:Hid (∀(r:ByteArray) (W:World),r=⟨#[]⟩->Sa 255 #[.string r,.int .u8 (u.toNat:Int)] W λe w'=>Uk e (Tu (-1))/\w'=W):=by
  rintro r W rfl;have:=Tryz.strings_IndexByte ⟨#[]⟩ (u.toNat:Int) W;rw[Tg]at this
  have e:Lib.indexByte (⟨#[]⟩:ByteArray).data.toList u.toNat.toUInt8=-1:=by
   rw[show u.toNat.toUInt8=u from UInt8.ofNat_toNat];rfl
  rw[e]at this;exact this
 have q4:((((⟨#[32,9,13]⟩:ByteArray)[2]'(by decide)).toNat:Int) != (((⟨#[H,I,u]⟩:ByteArray)[2]'(by show 2<3;decide)).toNat:Int))=true:=by
  show((13:Int) != (u.toNat:Int))=true;simp;omega
 clear J;go_enter func225,ntmps225
 go_wp2_with(first|(go_at_call 256;refine M.out.mono ?_;rintro e w1⟨rfl,G⟩;replace G:=G.symm;subst G))
 go_step3
 go_wp2_with fail
 go_loopw [9] (λi wr=>i=Tu 2/\wr=w) (λ_ _=>0)
 case atStart=>exact⟨rfl,rfl⟩
 case round=>
  obtain⟨rfl,G⟩:=hrel;subst G;(go_wp2_with fail)
  go_step3
  go_wp2_with fail
  go_quiet (fail)
  go_wp2_with fail
  go_region_law (go_simp;go_at_call 255;refine(O.out _ _ rfl).mono ?_;rintro e w2⟨rfl,G⟩;replace G:=G.symm;subst G)
  all_goals(
   go_wp2_with fail
   (repeat(first|rw[TR]|simp only[Exit.inBlock]|simp(config:={ zetaDelta:=true }) only[Exit.then,Exit.inBlock,TR]))
   go_ret;exact⟨rfl,dv _ _⟩)
def Rl (p:Int) (I J M G:UInt8) (w:World) (Z:128<=p) (Q:p≠65533) (S:Lib.validRune p=true) (H:Utf8.encode p=⟨#[I,J,M,G]⟩) (hL:128<=G.toNat) :
  Sa 225 #[.string ⟨#[32,9,13]⟩,.int .i32 p] w λe w'=>Uk e (Tu (-1))/\Se w w':=by
 have O:Hid (Sa 256 #[.int .i32 p] w λe w'=>Uk e (.bool true)/\w'=w):=by
  have:=Tryz.utf8_ValidRune p w;rw[S]at this;exact this
 have q1:¬p<128:=by omega
 have q2:(p==65533)=false:=by simpa using Q
 have q0:(0:Int)<=p:=by omega
 have w2:IntKind.i64.wrap 2=2:=by decide
 have w3:IntKind.i64.wrap 3=3:=by decide
 have Y:∀w,(convert 21 9 (.int .i32 p)).run Tryz.prog w=.ok (.string ⟨#[I,J,M,G]⟩) w:=λw=>by rw[<-H];exact Vb w _ _ _ _ rfl underlying9
 clear H;go_enter func225,ntmps225
 go_wp2_with(first|(go_at_call 256;refine O.out.mono ?_;rintro e w1⟨rfl,u⟩;replace u:=u.symm;subst u))
 go_step3
 go_wp2_with fail
 go_loopw [9] (λi wr=>i=Tu 3/\wr=w) (λ_ _=>0)
 case atStart=>exact⟨rfl,rfl⟩
 case round=>
  obtain⟨rfl,u⟩:=hrel;subst u;(go_wp2_with fail)
  (repeat(first|rw[TR]|simp only[Exit.inBlock]))
  go_ret;exact⟨rfl,gt _ _⟩
def K3 (p:Int) (w:World) (J:128<=p) (H:p≠65533) (I:Lib.validRune p=false) :
  Sa 225 #[.string ⟨#[32,9,13]⟩,.int .i32 p] w λe w'=>Uk e (Tu (-1))/\Se w w':=by
 have G:Hid (Sa 256 #[.int .i32 p] w λe w'=>Uk e (.bool false)/\w'=w):=by
  have:=Tryz.utf8_ValidRune p w;rw[I]at this;exact this
 have O:¬p<128:=by omega
 have Q:(p==65533)=false:=by simpa using H
 have M:(0:Int)<=p:=by omega
 go_enter func225,ntmps225
 go_wp2_with(first|(go_at_call 256;refine G.out.mono ?_;rintro e S⟨rfl,u⟩;replace u:=u.symm;subst u))
 (repeat(first|rw[TR]|simp only[Exit.inBlock]))
 go_ret;exact⟨rfl,gt _ _⟩
def Ot:∀pos,pos<3->Utf8.decode ⟨#[32,9,13]⟩ pos=((⟨#[32,9,13]⟩:ByteArray).get! pos |>.toNat,1)/\((⟨#[32,9,13]⟩:ByteArray).get! pos).toNat<128:=by decide
def K0 (w:World) :
  Sa 225 #[.string ⟨#[32,9,13]⟩,.int .i32 65533] w λe w'=>Uk e (Tu (-1))/\Se w w':=by
 obtain⟨s,H⟩:∃s:ByteArray,s=⟨#[32,9,13]⟩:=⟨_,rfl⟩;have O:s.size=3:=by rw[H];rfl
 have hd:∀pos,pos<3->dw s pos=1/\dp s pos<128:=λpos G=>by
  obtain⟨I,J⟩:=Ot pos G;unfold dw dp;rw[H,I];exact⟨rfl,J⟩
 rw[<-H];clear H;go_enter func225,ntmps225;(go_wp2_with fail)
 go_loopw [] (λw'=>∃pos:Nat,pos<=3/\w'=w.iter s pos) (λw'=>s.size-w'.iterPos w.heap.size)
 case atStart=>exact⟨0,by omega,rfl⟩
 case round=>
  obtain⟨pos,M,rfl⟩:=hrel
  by_cases G:pos<s.size
  ·have hnx:∀u,(Instr.next (.pointer (some ⟨w.heap.size,0,none⟩)) true u).run Tryz.prog (w.iter s pos)=_:=λu=>VU w s pos u G
   obtain⟨d1,d2⟩:=hd pos (by omega);unfold dw at d1;unfold dp at d2;have Q:(((Utf8.decode s pos).1:Int)==65533)=false:=by simp;omega
   (go_wp2_with fail);exact⟨⟨pos+1,by omega,rfl⟩,by simp;omega⟩
  ·have hnx:∀u,(Instr.next (.pointer (some ⟨w.heap.size,0,none⟩)) true u).run Tryz.prog (w.iter s pos)=_:=λu=>WD w s pos u G
   (go_wp2_with fail);go_ret;exact⟨rfl,du _ _ _⟩
def Rz (h:R.size=2):∃u G,R=⟨#[u,G]⟩:=by
 obtain⟨⟨l⟩⟩:=R
 match l,h with
 |[u,G],_=>exact⟨u,G,rfl⟩
def Ry (h:R.size=3):∃u G H,R=⟨#[u,G,H]⟩:=by
 obtain⟨⟨l⟩⟩:=R
 match l,h with
 |[u,G,H],_=>exact⟨u,G,H,rfl⟩
def Rx (h:R.size=4):∃u G H I,R=⟨#[u,G,H,I]⟩:=by
 obtain⟨⟨l⟩⟩:=R
 match l,h with
 |[u,G,H,I],_=>exact⟨u,G,H,I,rfl⟩
def K4 (p:Int) (w:World) (u:128<=p) :
  Sa 225 #[.string ⟨#[32,9,13]⟩,.int .i32 p] w λe w'=>Uk e (Tu (-1))/\Se w w':=by
 by_cases G:p=65533
 ·subst G;exact K0 w
 ·cases H:Lib.validRune p with
  |false=>exact K3 p w u G H
  |true=>
   obtain⟨S,Y,Q⟩:=encode_facts p (by rw[validRune_eq];exact H) u;have M:=Q (by omega);obtain⟨R,hR⟩:=ea (Utf8.encode p);simp only[hR]at S Y Q M
   rcases(show R.size=2\/R.size=3\/R.size=4 by omega)with h|h|h
   ·obtain⟨I,J,rfl⟩:=Rz h;exact Rp p I J w u G H hR M
   ·obtain⟨I,J,O,rfl⟩:=Ry h;exact Rm p I J O w u G H hR M
   ·obtain⟨I,J,O,Z,rfl⟩:=Rx h;exact Rl p I J O Z w u G H hR M
def Kv:∀n:Nat,n<128->decide ((0:Int)<=Lib.indexByte [32,9,13] n.toUInt8)=decide (n=32\/n=9\/n=13):=by decide
def qi (p:Int):Bool:=decide (p=32\/p=9\/p=13)
def tS (p:Int) (w:World) (H:0<=p) :
  Sa 187 #[.string ⟨#[32,9,13]⟩,.int .i32 p] w λe w'=>Uk e (.bool (qi p))/\Se w w':=by
 by_cases h:p<128
 ·refine(Tryz.strings_ContainsRune_ascii ⟨#[32,9,13]⟩ p w H h).mono ?_;rintro e w'⟨rfl,rfl⟩;refine⟨?_,gt _ _⟩;have e:=Kv p.toNat (by omega);have u:decide (p.toNat=32\/p.toNat=9\/p.toNat=13)=qi p:=by unfold qi;rw[SZ];omega
  rw[<-u,<-e]
 ·have G:=aW (K4 p w (by omega));have u:qi p=false:=by unfold qi;rw[Tr];omega
  rw[u];clear u;go_enter func187,ntmps187
  go_wp2_with(go_at_call 225;refine G.out.mono ?_;rintro e J⟨rfl,I⟩)
  go_ret;exact⟨rfl,I⟩
def mJ (p:Int) (w:World) (G:0<=p) :
  Sa 124 #[.int .i32 p] w λe w'=>Uk e (.bool (qi p))/\Se w w':=by
 have u:=aW (tS p w G);generalize qi p=r at *;go_enter func124,ntmps124
 go_wp2_with(go_at_call 187;refine u.out.mono ?_;rintro e I⟨rfl,H⟩)
 go_ret;exact⟨rfl,H⟩
def Im (b:UInt8):[(32:UInt8),9,13].contains b=dY b.toNat:=by
 unfold dY;simp only[List.contains_cons,List.contains_nil,Bool.or_false];rw[Ty];simp only[SC,T8,<-VJ];constructor
 ·rintro(h|h|h)
  ·exact .inl (.inl h)
  ·exact .inl (.inr h)
  ·exact .inr h
 ·rintro((h|h)|h)
  ·exact .inl h
  ·exact .inr (.inl h)
  ·exact .inr (.inr h)
def AZ (s:ByteArray) (a p j:Nat) (b:UInt8) (H:p<=s.size) (h:(s.extract a p).data.toList[j]?=some b):j<p-a/\aK s (a+j)=b.toNat:=by
 have I:=aE s a p H;have u:j<(s.extract a p).data.toList.length:=(RY.1 h).1;have hl:(s.extract a p).data.toList.length=(s.extract a p).size:=by rw[Tb];rfl
 refine⟨by omega,?_⟩;have e:=bX s a p j (by omega);rw[<-e];unfold aK;have G:=(RY.1 h).2
 have:(s.extract a p).get! j=b:=by
  show(s.extract a p).data[j]! = b;rw[VV (s.extract a p).data j (by rw[Tb]at u;exact u)]
  simpa using G
 rw[this]
def Jj (s:ByteArray) (a p:Nat) (I:a<p) (H:p<=s.size) (Y:dY (aK s a)=false):(⟨(Lib.trimRightS (s.extract a p).data.toList [32,9,13]).toArray⟩:ByteArray)=s.extract a (bJ s p):=by
 have h1:=gm s p;have h2:=lA s a Y p I;have Q:=oz s p;have hz:=aE s a p H;have hl:(s.extract a p).data.toList.length=(s.extract a p).size:=by rw[Tb];rfl
 have e:Lib.trimRightS (s.extract a p).data.toList [32,9,13]=(s.extract a p).data.toList.take (bJ s p-a):=by
  refine Lib.trimRightS_take _ _ _ (by omega) (λj b M G=>?_) (λb h0 G=>?_)
  ·obtain⟨O,u⟩:=AZ s a p j b H G;rw[Im,<-u];exact Q (a+j) (by omega) (by omega)
  ·obtain⟨O,u⟩:=AZ s a p _ b H G;rw[Im,<-u];have S:a+(bJ s p-a-1)=bJ s p-1:=by omega
   rw[S]
   have J:∀q,0<bJ s q->dY (aK s (bJ s q-1))=false:=by
    intro q
    induction q with
    |zero=>intro h;exact absurd h (by simp[bJ])
    |succ q ih=>
     intro h;unfold bJ at h ⊢
     by_cases e:dY (aK s q)=true
     ·rw[Or e]at h ⊢;exact ih h
     ·rw[Eq e]at h ⊢;simpa using e
   exact J p (by omega)
 rw[e];refine kY _ _ ?_ (λj M=>?_)
 ·rw[aE s a _ (by omega)];show((s.extract a p).data.toList.take (bJ s p-a)).toArray.size=_;simp;omega
 ·have Z:j<bJ s p-a:=by
   have:(⟨((s.extract a p).data.toList.take (bJ s p-a)).toArray⟩:ByteArray).size=((s.extract a p).data.toList.take (bJ s p-a)).length:=by show Array.size _=_;simp
   rw[this,Sk]at M;omega
  rw[bX s a _ j (by omega)];rw[<-bX s a p j (by omega)];unfold aK
  congr 1
  show((s.extract a p).data.toList.take (bJ s p-a)).toArray[j]! = (s.extract a p).data[j]!;rw[VV _ j (by simp;omega),VV _ j (by have:(s.extract a p).data.size=(s.extract a p).size:=rfl;omega)];simp
