import Derived.Test.YtcmbkeghnmgbfaaGreatDoorM09
set_option linter.all false
set_option maxHeartbeats 4000000
set_option maxRecDepth 100000
namespace Go.Proofs.YtcmbkeghnmgbfaaGreatDoor.Lx
open Go.Proofs.Tryz
open Go.RowKit
variable {W w0:World}{g k b f p:Nat}{o s:ByteArray}{L C e x y z:Int}{T0 new:List Tk}{cl:Bool}{vt vo vs:Value}{l:List Tv}
theorem iH {S:Nat->Prop}(h:aR S w0 W g s o T0 p k b f new) (M:5<=k)
  (G:Kb 62 #[.pointer (some ⟨g,0,none⟩),.int .i32 (xp s p),.string (s.extract p (xq s p))] W fun e w'=>aT S w0 g s o T0 p e w') :
  Kb 38 #[.pointer (some ⟨g,0,none⟩),.int .i32 (xp s p),.string (s.extract p (xq s p))] W fun e w'=>aT S w0 g s o T0 p e w':=by
 obtain⟨c5,z5,aa⟩:=h.cell;have HI:=ku G;have q0:((k:Int)==0)=false:=by simp;omega
 have q1:((k:Int)==1)=false:=by simp;omega
 have q2:((k:Int)==2)=false:=by simp;omega
 have q3:((k:Int)==3)=false:=by simp;omega
 have q4:((k:Int)==4)=false:=by simp;omega
 clear h G M
 go_enter func38,ntmps38
 go_wp2_with fail
 go_step3
 go_wp2_with(first|(go_at_call 62;refine HI.out.mono ?_;intro e w9 O;obtain⟨E,k',I,J,p',F,rfl,u⟩:=O;have H:Hid (aT S w0 g s o T0 p (.returned (.int .i64 E)) w9):=⟨E,k',I,J,p',F,rfl,u⟩;clear u))
 go_ret
 exact H.out
theorem ni {S:Nat->Prop}(h:aR S w0 W g s o T0 p k b f new) (H:s.size<=2147483647) (I:∀V,Kp S w0 V->fg V) :
  Kb 38 #[.pointer (some ⟨g,0,none⟩),.int .i32 (xp s p),.string (s.extract p (xq s p))] W fun e w'=>aT S w0 g s o T0 p e w':=by
 have hk:k=0\/k=1\/k=2\/k=3\/k=4\/k=5\/k=6\/k=7\/k=8:=by
  cases h.ms<;>simp
 have hc:s.size<=p\/(p<s.size/\av s p=10)\/(p<s.size/\av s p≠10/\bJ (av s p)=true)\/(p<s.size/\av s p≠10/\bJ (av s p)=false/\nF s p=0)\/(p<s.size/\av s p≠10/\bJ (av s p)=false/\nF s p≠0):=by
  by_cases F:p<s.size
  ·by_cases u:av s p=10
   ·exact .inr (.inl ⟨F,u⟩)
   ·cases M:bJ (av s p)with
    |true=>exact .inr (.inr (.inl ⟨F,u,rfl⟩))
    |false=>
     by_cases O:nF s p=0
     ·exact .inr (.inr (.inr (.inl ⟨F,u,rfl,O⟩)))
     ·exact .inr (.inr (.inr (.inr ⟨F,u,rfl,O⟩)))
  ·exact .inl (by omega)
 rcases hk with rfl|rfl|rfl|rfl|rfl|rfl|rfl|rfl|rfl
 ·rcases hc with F|⟨F,u⟩|⟨F,u,M⟩|⟨F,u,M,O⟩|⟨F,u,M,O⟩
  ·exact tH h H I F
  ·exact xW h H I F u
  ·exact xX h H I F u M
  ·exact xV h H I F u M O
  ·exact xY h H I F u M _ rfl O
 ·by_cases J:p<s.size/\(gd s p&&jL (dp s p))=true
  ·exact xP h H I J.1 J.2
  ·have G:p<s.size->(gd s p&&jL (dp s p))=false:=fun F=>by
    cases e:(gd s p&&jL (dp s p))with
    |false=>rfl
    |true=>exact absurd ⟨F,e⟩ J
   rcases hc with F|⟨F,u⟩|⟨F,u,M⟩|⟨F,u,M,O⟩|⟨F,u,M,O⟩
   ·exact tG h H I F G
   ·exact xR h H I F u G
   ·exact xS h H I F u M G
   ·exact xQ h H I F u M O G
   ·exact xU h H I F u M _ rfl O G
 ·by_cases J:p<s.size/\dh (av s p)=true
  ·exact xJ h H I J.1 J.2
  ·have G:p<s.size->dh (av s p)=false:=fun F=>by
    cases e:dh (av s p)with
    |false=>rfl
    |true=>exact absurd ⟨F,e⟩ J
   rcases hc with F|⟨F,u⟩|⟨F,u,M⟩|⟨F,u,M,O⟩|⟨F,u,M,O⟩
   ·exact tF h H I F G
   ·exact xL h H I F u G
   ·exact xM h H I F u M G
   ·exact xK h H I F u M O G
   ·exact xN h H I F u M _ rfl O G
 ·by_cases hl:p<s.size/\s.extract b (p+dw s p)=dj
  ·exact qS h H I hl.1 hl.2
  ·have aa:p<s.size->s.extract b (p+dw s p)≠dj:=fun F e=>hl ⟨F,e⟩
   by_cases J:p<s.size/\p-b<(sg (s.extract b (p+dw s p)) 0).size
   ·exact xD h H I J.1 (aa J.1) J.2
   ·have G:p<s.size->¬p-b<(sg (s.extract b (p+dw s p)) 0).size:=fun F e=>J ⟨F,e⟩
    rcases hc with F|⟨F,u⟩|⟨F,u,M⟩|⟨F,u,M,O⟩|⟨F,u,M,O⟩
    ·exact tE h H I F aa G
    ·exact xG h H I F u aa G
    ·exact xH h H I F u M aa G
    ·exact xE h H I F u M O aa G
    ·exact xI h H I F u M _ rfl O aa G
 ·by_cases F:p<s.size
  ·by_cases u:av s p=10
   ·exact xC h H I F u
   ·exact xB h H I F u
  ·exact tD h H I (by omega)
 ·exact iH h (by decide) (mj h H)
 ·exact iH h (by decide) (oG h H)
 ·exact iH h (by decide) (oH h H)
 ·exact iH h (by decide) (mi h H)
def Ju (S:Nat->Prop) (w0 w':World) (g:Nat) (s o:ByteArray) (T0:List Tk) (fin:Prop) (E:Nat):Prop:=
 ∃(k b f p':Nat) (new:List Tk) (A:Nat),Lq S w0 w' g k b (pL s b) (pC s b) f (s.extract b p') o (new.map (tv s))/\bd s b/\bd s p'/\b<=p'/\scn s=(T0++new,E,A)/\(fin->¬fI s E A)/\A=if E=102 then p' else b
def Jn (S:Nat->Prop) (w0:World) (g:Nat) (s o:ByteArray) (T0:List Tk) (e:Ending) (w':World):Prop:=
 ∃E:Nat,e=.returned (.int .i64 E)/\((E=0/\∃k b f new,aR S w0 w' g s o T0 s.size k b f new)\/(E≠0/\Ju S w0 w' g s o T0 True E))
theorem nj {S:Nat->Prop}{w0 W:World}{g:Nat}{s o c:ByteArray}{T0:List Tk}{p0 k b f:Nat}{new:List Tk}(h:aR S w0 W g s o T0 p0 k b f new) (hs:s.size<=2147483647) (hK:∀V,Kp S w0 V->fg V) (hc:s.extract p0 s.size=c) :
  Kb 35 #[.pointer (some ⟨g,0,none⟩),.string c] W fun e w'=>Jn S w0 g s o T0 e w':=by
 have H:p0<=s.size:=ia h.pd;have hz:c.size=s.size-p0:=by rw[<-hc];exact ag s p0 s.size (ge _)
 have ac:Hid (∀V i,∀{k b f:Nat} {new:List Tk},aR S w0 V g s o T0 (p0+i) k b f new->i<c.size->Kb 38 #[.pointer (some ⟨g,0,none⟩),.int .i32 (dp c i),.string (c.extract i (i+dw c i))] V fun e w'=>aT S w0 g s o T0 (p0+i) e w'):=fun V i k b f new hV hi=>by
  have h1:=ni hV hs hK;have hp:p0+i<s.size:=by omega
  have hd:=(aM s (p0+i) hp).2.2;have e1:dp c i=dp s (p0+i):=by unfold dp;rw[<-hc,cI s p0 i H]
  have e2:dw c i=dw s (p0+i):=by unfold dw;rw[<-hc,cI s p0 i H]
  rw[aL hp,cr hp]at h1;rw[e1,e2,<-hc,cX s p0 s.size i (i+dw s (p0+i)) (ge _) (by omega) (by omega),show p0+(i+dw s (p0+i))=p0+i+dw s (p0+i)by omega];exact h1
 have ab:Hid (∀V i,i<c.size->Kb 61 #[.string c,.int .i64 i] V fun e w'=>e=.returned (.tuple #[.int .i64 (dp c i),.int .i64 (dw c i),.bool (gd c i)])/\Kc V w'):=fun V i hi=>by
  have:=vy c i V (by unfold maxLen;omega) (by omega) (by omega);rw[Lp]at this;exact this
 have aa:Hid (∀i,i<c.size->1<=dw c i/\i+dw c i<=c.size/\dw c i=dw s (p0+i)/\dp c i<=1114111):=fun i hi=>by
  have:=aM c i hi;exact⟨this.1,this.2.2,by unfold dw;rw[<-hc,cI s p0 i H],bL c i⟩
 have H0:=ku h;have af:c.size<=2147483647:=by omega
 have HZ:=ku hz;clear h hc hz
 go_enter func35,ntmps35
 go_wp2_with fail
 go_loopw [5] (fun i wr=>∃j:Nat,i=.int .i64 j/\j<=c.size/\Hid (∃k b f new,aR S w0 wr g s o T0 (p0+j) k b f new)) (fun i _=>c.size-(intOf i).toNat)
 case atStart=>exact⟨0,rfl,Kj _,_,_,_,_,H0.out⟩
 case round=>
  obtain⟨j,rfl,hj,HI⟩:=hrel;obtain⟨w5,e5⟩:∃w5,w5=wr:=⟨wr,rfl⟩;subst e5
  by_cases G:j<c.size
  ·have r1:(j:Int)<c.size:=by omega
   obtain⟨d1,d2,d3,d4⟩:=aa.out j G;have HN:Hid (∀V,Kb 61 #[.string c,.int .i64 j] V fun e w'=>e=.returned (.tuple #[.int .i64 (dp c j),.int .i64 (dw c j),.bool (gd c j)])/\Kc V w'):=fun V=>ab.out V j G
   have HS:Hid (∀V,Kc w5 V->Kb 38 #[.pointer (some ⟨g,0,none⟩),.int .i32 (dp c j),.string (c.extract j (j+dw c j))] V fun e w'=>aT S w0 g s o T0 (p0+j) e w'):=fun V hV=>by
    obtain⟨k,b,f,new,hI⟩:=HI.out;exact ac.out V j (hI.below hV) G
   have ah:IntKind.i32.wrap (dp c j:Int)=dp c j:=by rw[IntKind.wrap_i32];omega
   have ai:IntKind.i64.wrap ((j:Int)+(dw c j:Int))=((j+dw c j:Nat):Int):=by rw[Ki];omega
   have b1:(j:Int)<=((j+dw c j:Nat):Int):=by omega
   have b2:((j+dw c j:Nat):Int)<=c.size:=by omega
   have F:=ku d3;clear ab ac aa HI H0 d3
   generalize dp c j=x at *
   generalize dw c j=y at *
   generalize gd c j=z at *
   go_wp2_with(first|(go_at_call 61;refine(HN.out _).mono ?_;rintro e w6⟨rfl,ae⟩))
   refine(HS.out _ ae).mono ?_;intro e w9 hz;obtain⟨E,k',b',f',p',u,rfl,z1,z2,z3,z4,z5⟩:=hz
   rcases z5 with⟨rfl,M,I,O,J⟩|⟨rfl,M,I⟩|⟨M,A,I,O,J⟩
   ·have ad:Hid (∃k b f new,aR S w0 w9 g s o T0 (p0+(j+y)) k b f new):=⟨k',b',f',u,by
     rw[I,<-F.out,show p0+j+y=p0+(j+y)by omega]at z1 z3 J;exact⟨z1,O,J,z3⟩⟩
    clear z1 z2 z3 z4 M I O J HS HN F
    go_wp2_with fail
    exact⟨⟨j+y,by go_num,by omega,ad⟩,by simp[intOf];omega⟩
   ·have:=HZ.out;omega
   ·have qE:((E:Int) != 0)=true:=by rw[bne_iff_ne];omega
    have HF:Hid (Jn S w0 g s o T0 (.returned (.int .i64 E)) w9):=⟨E,rfl,.inr ⟨M,k',b',f',p',u,A,z1,z2,z3,z4,I,fun _=>O (by have:=HZ.out;omega),J⟩⟩;clear z1 z2 z3 z4 M I O J HS HN F
    go_wp2_with fail
    go_ret
    exact HF.out
  ·obtain rfl:j=c.size:=by omega
   have r1:¬(c.size:Int)<c.size:=by omega
   have HF:Hid (Jn S w0 g s o T0 (.returned (.int .i64 0)) w5):=by
    obtain⟨k,b,f,new,hI⟩:=HI.out;rw[show p0+c.size=s.size by have:=HZ.out;omega]at hI;exact⟨0,rfl,.inl ⟨rfl,k,b,f,new,hI⟩⟩
   clear HI H0
   go_wp2_with fail
   go_ret
   exact HF.out
theorem jN {b f:Int}(h:fH W g cl e x y z k b L C f vt vo vs) :
  Kb 33 #[.pointer (some ⟨g,0,none⟩)] W fun J w'=>J=.returned (if cl=true then .agg #[.int .i64 4,.int .i64 0,.int .i64 0,.int .i64 0]else .agg #[.int .i64 e,.int .i64 x,.int .i64 y,.int .i64 z])/\Kc W w':=by
 obtain⟨c0,c1,c2,c3,c4,c5,c6,c7,c8,c9,c10,M,O⟩:=h.cells;have ab:=ai h;clear h;cases cl
 ·go_enter func33,ntmps33
  go_wp2_with fail
  have u:(W.alloc (.cells #[.int .i64 e,.int .i64 x,.int .i64 y,.int .i64 z] 35)).heap[W.heap.size]?=some (.cells #[.int .i64 e,.int .i64 x,.int .i64 y,.int .i64 z] 35 (0,0)):=World.alloc_heap_new W _;have F:(W.alloc (.cells #[.int .i64 e,.int .i64 x,.int .i64 y,.int .i64 z] 35)).cell? ⟨W.heap.size,0,none⟩=some (.int .i64 e):=aa u rfl;have G:(W.alloc (.cells #[.int .i64 e,.int .i64 x,.int .i64 y,.int .i64 z] 35)).cell? ⟨W.heap.size,1,none⟩=some (.int .i64 x):=aa u rfl;have H:(W.alloc (.cells #[.int .i64 e,.int .i64 x,.int .i64 y,.int .i64 z] 35)).cell? ⟨W.heap.size,2,none⟩=some (.int .i64 y):=aa u rfl;have I:(W.alloc (.cells #[.int .i64 e,.int .i64 x,.int .i64 y,.int .i64 z] 35)).cell? ⟨W.heap.size,3,none⟩=some (.int .i64 z):=aa u rfl;refine Kv (v:=.agg #[.int .i64 e,.int .i64 x,.int .i64 y,.int .i64 z]) (by simp[results,Tryz.f33,go_sem,F,G,H,I]) rfl ?_;exact⟨rfl,(gt _ _).alloc (ge _) _⟩
 ·go_enter func33,ntmps33
  go_wp2_with fail
  have u:(W.alloc (.cells #[.int .i64 4,.int .i64 0,.int .i64 0,.int .i64 0] 35)).heap[W.heap.size]?=some (.cells #[.int .i64 4,.int .i64 0,.int .i64 0,.int .i64 0] 35 (0,0)):=World.alloc_heap_new W _;have F:(W.alloc (.cells #[.int .i64 4,.int .i64 0,.int .i64 0,.int .i64 0] 35)).cell? ⟨W.heap.size,0,none⟩=some (.int .i64 4):=aa u rfl;have G:(W.alloc (.cells #[.int .i64 4,.int .i64 0,.int .i64 0,.int .i64 0] 35)).cell? ⟨W.heap.size,1,none⟩=some (.int .i64 0):=aa u rfl;have H:(W.alloc (.cells #[.int .i64 4,.int .i64 0,.int .i64 0,.int .i64 0] 35)).cell? ⟨W.heap.size,2,none⟩=some (.int .i64 0):=aa u rfl;have I:(W.alloc (.cells #[.int .i64 4,.int .i64 0,.int .i64 0,.int .i64 0] 35)).cell? ⟨W.heap.size,3,none⟩=some (.int .i64 0):=aa u rfl;refine Kv (v:=.agg #[.int .i64 4,.int .i64 0,.int .i64 0,.int .i64 0]) (by simp[results,Tryz.f33,go_sem,F,G,H,I]) rfl ?_;exact⟨rfl,(gt _ _).alloc (ge _) _⟩
theorem AO {b f:Int}(h:fH W g cl e x y z k b L C f vt vo vs) (a0 u F G H I M O a8 a9 J aa ac:Value) :
  (((((((((((((W.setCell ⟨g,0,none⟩ a0).setCell ⟨g,1,none⟩ u).setCell ⟨g,2,none⟩ F).setCell ⟨g,3,none⟩ G).setCell ⟨g,4,none⟩ H).setCell ⟨g,5,none⟩ I).setCell ⟨g,6,none⟩ M).setCell ⟨g,7,none⟩ O).setCell ⟨g,8,none⟩ a8).setCell ⟨g,9,none⟩ a9).setCell ⟨g,10,none⟩ J).setCell ⟨g,11,none⟩ aa).setCell ⟨g,12,none⟩ ac).heap[g]?=some (.cells #[a0,u,F,G,H,I,M,O,a8,a9,J,aa,ac] 83 (0,0))/\Kp (fun k=>k=g) W (((((((((((((W.setCell ⟨g,0,none⟩ a0).setCell ⟨g,1,none⟩ u).setCell ⟨g,2,none⟩ F).setCell ⟨g,3,none⟩ G).setCell ⟨g,4,none⟩ H).setCell ⟨g,5,none⟩ I).setCell ⟨g,6,none⟩ M).setCell ⟨g,7,none⟩ O).setCell ⟨g,8,none⟩ a8).setCell ⟨g,9,none⟩ a9).setCell ⟨g,10,none⟩ J).setCell ⟨g,11,none⟩ aa).setCell ⟨g,12,none⟩ ac):=by
 have x1:(W.setCell ⟨g,0,none⟩ a0).heap[g]?=some (.cells #[a0,.int .i64 e,.int .i64 x,.int .i64 y,.int .i64 z,.int .i64 k,.int .i64 b,.int .i64 L,.int .i64 C,.int .i64 f,vt,vo,vs] 83 (0,0)):=ab h 0 a0;have x2:((W.setCell ⟨g,0,none⟩ a0).setCell ⟨g,1,none⟩ u).heap[g]?=some (.cells #[a0,u,.int .i64 x,.int .i64 y,.int .i64 z,.int .i64 k,.int .i64 b,.int .i64 L,.int .i64 C,.int .i64 f,vt,vo,vs] 83 (0,0)):=ab x1 1 u;have x3:(((W.setCell ⟨g,0,none⟩ a0).setCell ⟨g,1,none⟩ u).setCell ⟨g,2,none⟩ F).heap[g]?=some (.cells #[a0,u,F,.int .i64 y,.int .i64 z,.int .i64 k,.int .i64 b,.int .i64 L,.int .i64 C,.int .i64 f,vt,vo,vs] 83 (0,0)):=ab x2 2 F;have x4:((((W.setCell ⟨g,0,none⟩ a0).setCell ⟨g,1,none⟩ u).setCell ⟨g,2,none⟩ F).setCell ⟨g,3,none⟩ G).heap[g]?=some (.cells #[a0,u,F,G,.int .i64 z,.int .i64 k,.int .i64 b,.int .i64 L,.int .i64 C,.int .i64 f,vt,vo,vs] 83 (0,0)):=ab x3 3 G;have x5:(((((W.setCell ⟨g,0,none⟩ a0).setCell ⟨g,1,none⟩ u).setCell ⟨g,2,none⟩ F).setCell ⟨g,3,none⟩ G).setCell ⟨g,4,none⟩ H).heap[g]?=some (.cells #[a0,u,F,G,H,.int .i64 k,.int .i64 b,.int .i64 L,.int .i64 C,.int .i64 f,vt,vo,vs] 83 (0,0)):=ab x4 4 H;have x6:((((((W.setCell ⟨g,0,none⟩ a0).setCell ⟨g,1,none⟩ u).setCell ⟨g,2,none⟩ F).setCell ⟨g,3,none⟩ G).setCell ⟨g,4,none⟩ H).setCell ⟨g,5,none⟩ I).heap[g]?=some (.cells #[a0,u,F,G,H,I,.int .i64 b,.int .i64 L,.int .i64 C,.int .i64 f,vt,vo,vs] 83 (0,0)):=ab x5 5 I;have x7:(((((((W.setCell ⟨g,0,none⟩ a0).setCell ⟨g,1,none⟩ u).setCell ⟨g,2,none⟩ F).setCell ⟨g,3,none⟩ G).setCell ⟨g,4,none⟩ H).setCell ⟨g,5,none⟩ I).setCell ⟨g,6,none⟩ M).heap[g]?=some (.cells #[a0,u,F,G,H,I,M,.int .i64 L,.int .i64 C,.int .i64 f,vt,vo,vs] 83 (0,0)):=ab x6 6 M;have x8:((((((((W.setCell ⟨g,0,none⟩ a0).setCell ⟨g,1,none⟩ u).setCell ⟨g,2,none⟩ F).setCell ⟨g,3,none⟩ G).setCell ⟨g,4,none⟩ H).setCell ⟨g,5,none⟩ I).setCell ⟨g,6,none⟩ M).setCell ⟨g,7,none⟩ O).heap[g]?=some (.cells #[a0,u,F,G,H,I,M,O,.int .i64 C,.int .i64 f,vt,vo,vs] 83 (0,0)):=ab x7 7 O;have x9:(((((((((W.setCell ⟨g,0,none⟩ a0).setCell ⟨g,1,none⟩ u).setCell ⟨g,2,none⟩ F).setCell ⟨g,3,none⟩ G).setCell ⟨g,4,none⟩ H).setCell ⟨g,5,none⟩ I).setCell ⟨g,6,none⟩ M).setCell ⟨g,7,none⟩ O).setCell ⟨g,8,none⟩ a8).heap[g]?=some (.cells #[a0,u,F,G,H,I,M,O,a8,.int .i64 f,vt,vo,vs] 83 (0,0)):=ab x8 8 a8;have ah:((((((((((W.setCell ⟨g,0,none⟩ a0).setCell ⟨g,1,none⟩ u).setCell ⟨g,2,none⟩ F).setCell ⟨g,3,none⟩ G).setCell ⟨g,4,none⟩ H).setCell ⟨g,5,none⟩ I).setCell ⟨g,6,none⟩ M).setCell ⟨g,7,none⟩ O).setCell ⟨g,8,none⟩ a8).setCell ⟨g,9,none⟩ a9).heap[g]?=some (.cells #[a0,u,F,G,H,I,M,O,a8,a9,vt,vo,vs] 83 (0,0)):=ab x9 9 a9;have ai:(((((((((((W.setCell ⟨g,0,none⟩ a0).setCell ⟨g,1,none⟩ u).setCell ⟨g,2,none⟩ F).setCell ⟨g,3,none⟩ G).setCell ⟨g,4,none⟩ H).setCell ⟨g,5,none⟩ I).setCell ⟨g,6,none⟩ M).setCell ⟨g,7,none⟩ O).setCell ⟨g,8,none⟩ a8).setCell ⟨g,9,none⟩ a9).setCell ⟨g,10,none⟩ J).heap[g]?=some (.cells #[a0,u,F,G,H,I,M,O,a8,a9,J,vo,vs] 83 (0,0)):=ab ah 10 J;have aj:((((((((((((W.setCell ⟨g,0,none⟩ a0).setCell ⟨g,1,none⟩ u).setCell ⟨g,2,none⟩ F).setCell ⟨g,3,none⟩ G).setCell ⟨g,4,none⟩ H).setCell ⟨g,5,none⟩ I).setCell ⟨g,6,none⟩ M).setCell ⟨g,7,none⟩ O).setCell ⟨g,8,none⟩ a8).setCell ⟨g,9,none⟩ a9).setCell ⟨g,10,none⟩ J).setCell ⟨g,11,none⟩ aa).heap[g]?=some (.cells #[a0,u,F,G,H,I,M,O,a8,a9,J,aa,vs] 83 (0,0)):=ab ai 11 aa;have ak:(((((((((((((W.setCell ⟨g,0,none⟩ a0).setCell ⟨g,1,none⟩ u).setCell ⟨g,2,none⟩ F).setCell ⟨g,3,none⟩ G).setCell ⟨g,4,none⟩ H).setCell ⟨g,5,none⟩ I).setCell ⟨g,6,none⟩ M).setCell ⟨g,7,none⟩ O).setCell ⟨g,8,none⟩ a8).setCell ⟨g,9,none⟩ a9).setCell ⟨g,10,none⟩ J).setCell ⟨g,11,none⟩ aa).setCell ⟨g,12,none⟩ ac).heap[g]?=some (.cells #[a0,u,F,G,H,I,M,O,a8,a9,J,aa,ac] 83 (0,0)):=ab aj 12 ac;have k1:Kp (fun k=>k=g) W (W.setCell ⟨g,0,none⟩ a0):=Kp.set W g 0 a0;have k2:Kp (fun k=>k=g) W ((W.setCell ⟨g,0,none⟩ a0).setCell ⟨g,1,none⟩ u):=k1.trans (Kp.set _ g 1 u);have k3:Kp (fun k=>k=g) W (((W.setCell ⟨g,0,none⟩ a0).setCell ⟨g,1,none⟩ u).setCell ⟨g,2,none⟩ F):=k2.trans (Kp.set _ g 2 F);have k4:Kp (fun k=>k=g) W ((((W.setCell ⟨g,0,none⟩ a0).setCell ⟨g,1,none⟩ u).setCell ⟨g,2,none⟩ F).setCell ⟨g,3,none⟩ G):=k3.trans (Kp.set _ g 3 G);have k5:Kp (fun k=>k=g) W (((((W.setCell ⟨g,0,none⟩ a0).setCell ⟨g,1,none⟩ u).setCell ⟨g,2,none⟩ F).setCell ⟨g,3,none⟩ G).setCell ⟨g,4,none⟩ H):=k4.trans (Kp.set _ g 4 H);have k6:Kp (fun k=>k=g) W ((((((W.setCell ⟨g,0,none⟩ a0).setCell ⟨g,1,none⟩ u).setCell ⟨g,2,none⟩ F).setCell ⟨g,3,none⟩ G).setCell ⟨g,4,none⟩ H).setCell ⟨g,5,none⟩ I):=k5.trans (Kp.set _ g 5 I);have k7:Kp (fun k=>k=g) W (((((((W.setCell ⟨g,0,none⟩ a0).setCell ⟨g,1,none⟩ u).setCell ⟨g,2,none⟩ F).setCell ⟨g,3,none⟩ G).setCell ⟨g,4,none⟩ H).setCell ⟨g,5,none⟩ I).setCell ⟨g,6,none⟩ M):=k6.trans (Kp.set _ g 6 M);have k8:Kp (fun k=>k=g) W ((((((((W.setCell ⟨g,0,none⟩ a0).setCell ⟨g,1,none⟩ u).setCell ⟨g,2,none⟩ F).setCell ⟨g,3,none⟩ G).setCell ⟨g,4,none⟩ H).setCell ⟨g,5,none⟩ I).setCell ⟨g,6,none⟩ M).setCell ⟨g,7,none⟩ O):=k7.trans (Kp.set _ g 7 O);have k9:Kp (fun k=>k=g) W (((((((((W.setCell ⟨g,0,none⟩ a0).setCell ⟨g,1,none⟩ u).setCell ⟨g,2,none⟩ F).setCell ⟨g,3,none⟩ G).setCell ⟨g,4,none⟩ H).setCell ⟨g,5,none⟩ I).setCell ⟨g,6,none⟩ M).setCell ⟨g,7,none⟩ O).setCell ⟨g,8,none⟩ a8):=k8.trans (Kp.set _ g 8 a8);have ad:Kp (fun k=>k=g) W ((((((((((W.setCell ⟨g,0,none⟩ a0).setCell ⟨g,1,none⟩ u).setCell ⟨g,2,none⟩ F).setCell ⟨g,3,none⟩ G).setCell ⟨g,4,none⟩ H).setCell ⟨g,5,none⟩ I).setCell ⟨g,6,none⟩ M).setCell ⟨g,7,none⟩ O).setCell ⟨g,8,none⟩ a8).setCell ⟨g,9,none⟩ a9):=k9.trans (Kp.set _ g 9 a9);have ae:Kp (fun k=>k=g) W (((((((((((W.setCell ⟨g,0,none⟩ a0).setCell ⟨g,1,none⟩ u).setCell ⟨g,2,none⟩ F).setCell ⟨g,3,none⟩ G).setCell ⟨g,4,none⟩ H).setCell ⟨g,5,none⟩ I).setCell ⟨g,6,none⟩ M).setCell ⟨g,7,none⟩ O).setCell ⟨g,8,none⟩ a8).setCell ⟨g,9,none⟩ a9).setCell ⟨g,10,none⟩ J):=ad.trans (Kp.set _ g 10 J);have af:Kp (fun k=>k=g) W ((((((((((((W.setCell ⟨g,0,none⟩ a0).setCell ⟨g,1,none⟩ u).setCell ⟨g,2,none⟩ F).setCell ⟨g,3,none⟩ G).setCell ⟨g,4,none⟩ H).setCell ⟨g,5,none⟩ I).setCell ⟨g,6,none⟩ M).setCell ⟨g,7,none⟩ O).setCell ⟨g,8,none⟩ a8).setCell ⟨g,9,none⟩ a9).setCell ⟨g,10,none⟩ J).setCell ⟨g,11,none⟩ aa):=ae.trans (Kp.set _ g 11 aa);have ag:Kp (fun k=>k=g) W (((((((((((((W.setCell ⟨g,0,none⟩ a0).setCell ⟨g,1,none⟩ u).setCell ⟨g,2,none⟩ F).setCell ⟨g,3,none⟩ G).setCell ⟨g,4,none⟩ H).setCell ⟨g,5,none⟩ I).setCell ⟨g,6,none⟩ M).setCell ⟨g,7,none⟩ O).setCell ⟨g,8,none⟩ a8).setCell ⟨g,9,none⟩ a9).setCell ⟨g,10,none⟩ J).setCell ⟨g,11,none⟩ aa).setCell ⟨g,12,none⟩ ac):=af.trans (Kp.set _ g 12 ac);exact⟨ak,ag⟩
theorem vK {S:Nat->Prop}{t:ByteArray}(h:Lq S w0 W g k b L C f t o l) :
  Kb 34 #[.pointer (some ⟨g,0,none⟩),.int .i64 0] W fun e' w'=>∃v,e'=.returned (.tuple #[v,.int .i64 0,.agg #[.int .i64 0,.int .i64 0,.int .i64 0]])/\Rt w0.heap.size w' v l/\∃vt vo,fH w' g false 0 0 0 0 k b L C f vt vo (.slice none 0 0)/\Lz S w0 w' g vt vo (.slice none 0 0) t o []:=by
 obtain⟨vt,vo,vs,G,I⟩:=h;obtain⟨c0,c1,c2,c3,c4,c5,c6,c7,c8,c9,c10,c11,c12⟩:=G.cells;have ac:=ai G;have ad:=G.frozen 12;obtain⟨sp,sc,e2,_⟩:=I.rs.shape;have hsz:(W.setCell ⟨g,12,none⟩ (.slice none 0 0)).heap.size=W.heap.size:=Nt _ _ _;obtain⟨W1,hW1⟩:∃W1,W.setCell ⟨g,12,none⟩ (.slice none 0 0)=W1:=⟨_,rfl⟩;have HW:=ku hW1;have M:Lz S w0 W1 g vt vo vs t o l:=by rw[<-hW1];exact I.set G 12 _
 have J:fH W1 g false 0 0 0 0 k b L C f vt vo (.slice none 0 0):=by rw[<-hW1];exact ab G 12 _
 have H:=World.alloc_heap_new W1 (.cells #[.int .i64 0,.int .i64 0,.int .i64 0] 33);rw[hW1]at hsz;rw[hsz]at H;have F:Below W1.heap.size W1 (W1.alloc (.cells #[.int .i64 0,.int .i64 0,.int .i64 0] 33)).drew:=((gt _ _).alloc (ge _) _).drew
 have O:Hid (Rt w0.heap.size (W1.alloc (.cells #[.int .i64 0,.int .i64 0,.int .i64 0] 33)).drew vs l/\∃vt vo,fH (W1.alloc (.cells #[.int .i64 0,.int .i64 0,.int .i64 0] 33)).drew g false 0 0 0 0 k b L C f vt vo (.slice none 0 0)/\Lz S w0 (W1.alloc (.cells #[.int .i64 0,.int .i64 0,.int .i64 0] 33)).drew g vt vo (.slice none 0 0) t o []):=by
  have u:=M.below F;exact⟨u.rs,vt,vo,af J F,u.kp,u.sg,u.nw,u.rt,u.ro,u.ap,kV _ _⟩
 have m0:(W1.alloc (.cells #[.int .i64 0,.int .i64 0,.int .i64 0] 33)).drew.cell? ⟨W.heap.size,0,none⟩=some (.int .i64 0):=aa (W:=(W1.alloc (.cells #[.int .i64 0,.int .i64 0,.int .i64 0] 33)).drew) H rfl;have m1:(W1.alloc (.cells #[.int .i64 0,.int .i64 0,.int .i64 0] 33)).drew.cell? ⟨W.heap.size,1,none⟩=some (.int .i64 0):=aa (W:=(W1.alloc (.cells #[.int .i64 0,.int .i64 0,.int .i64 0] 33)).drew) H rfl;have m2:(W1.alloc (.cells #[.int .i64 0,.int .i64 0,.int .i64 0] 33)).drew.cell? ⟨W.heap.size,2,none⟩=some (.int .i64 0):=aa (W:=(W1.alloc (.cells #[.int .i64 0,.int .i64 0,.int .i64 0] 33)).drew) H rfl;subst e2;clear G I J M hW1 H F
 go_enter func34,ntmps34
 go_wp2_with fail
 go_region_law (fail)
 all_goals(
  go_wp2_with fail
  rw[HW.out];refine Kv (v:=.tuple #[.slice sp l.length sc,.int .i64 0,.agg #[.int .i64 0,.int .i64 0,.int .i64 0]]) (by simp[results,Tryz.f34,go_sem,m0,m1,m2]) rfl ?_;exact⟨_,rfl,O.out⟩)
def JA (W:World) (g:Nat) (E:Nat) (A:Nat) (L C:Int):Prop:=fH W g false E A L C 0 0 0 0 0 (.slice none 0 0) (.slice none 0 0) (.slice none 0 0)
theorem qZ {S:Nat->Prop}(h:Lq S w0 W g k b (pL s b) (pC s b) f (s.extract b p) o l) (hs:s.size<=2147483647) (al:b<=p) (hb:bd s b) (hp:bd s p) (E A:Nat) (hE:E≠0) (hA:A=if E=102 then p else b) :
  Kb 34 #[.pointer (some ⟨g,0,none⟩),.int .i64 E] W fun e' w'=>∃v,e'=.returned (.tuple #[v,.int .i64 E,.agg #[.int .i64 A,.int .i64 (pL s A),.int .i64 (pC s A)]])/\Rt w0.heap.size w' v l/\JA w' g E A (pL s A) (pC s A)/\Kp S w0 w':=by
 obtain⟨vt,vo,vs,I,h2⟩:=h;obtain⟨sp,sc,e2,_⟩:=h2.rs.shape;have au:=ai I;have ag:g≠W.heap.size:=by omega
 have ah:=I.frozen 12;have qE:((E:Int) != 0)=true:=by rw[bne_iff_ne];omega
 have hsz:(W.setCell ⟨g,12,none⟩ (.slice none 0 0)).heap.size=W.heap.size:=Nt _ _ _;have J:W.cell? ⟨g,12,none⟩=some vs:=aa I rfl;obtain⟨u,M⟩:∃x,pL s A=x:=⟨_,rfl⟩;obtain⟨XC,hXC⟩:∃x,pC s A=x:=⟨_,rfl⟩
 have aj:Hid (Kb 60 #[.pointer (some ⟨g,0,none⟩),.int .i64 E] ((W.setCell ⟨g,12,none⟩ (.slice none 0 0)).alloc (.cells #[.int .i64 0,.int .i64 0,.int .i64 0] 33)) fun e w'=>e=.returned (.agg #[.int .i64 A,.int .i64 u,.int .i64 XC])/\Below ((W.setCell ⟨g,12,none⟩ (.slice none 0 0)).alloc (.cells #[.int .i64 0,.int .i64 0,.int .i64 0] 33)).heap.size ((W.setCell ⟨g,12,none⟩ (.slice none 0 0)).alloc (.cells #[.int .i64 0,.int .i64 0,.int .i64 0] 33)) w'):=by
  have O:=(h2.set I 12 (.slice none 0 0)).below ((gt _ _).alloc (ge _) (.cells #[.int .i64 0,.int .i64 0,.int .i64 0] 33));have y1:fH ((W.setCell ⟨g,12,none⟩ (.slice none 0 0)).alloc (.cells #[.int .i64 0,.int .i64 0,.int .i64 0] 33)) g false 0 0 0 0 k b (pL s b) (pC s b) f vt vo (.slice none 0 0):=af (ab I 12 (.slice none 0 0)) ((gt _ _).alloc (ge _) _);have:=tK (S:=S) (w0:=w0) (l:=[]) ⟨vt,vo,(.slice none 0 0),y1,O.kp,O.sg,O.nw,O.rt,O.ro,O.ap,kV _ _⟩ hs al hb hp E A hA;rw[M,hXC]at this;exact this
 have HK:Hid (∀V,Below ((W.setCell ⟨g,12,none⟩ (.slice none 0 0)).alloc (.cells #[.int .i64 0,.int .i64 0,.int .i64 0] 33)).heap.size ((W.setCell ⟨g,12,none⟩ (.slice none 0 0)).alloc (.cells #[.int .i64 0,.int .i64 0,.int .i64 0] 33)) V->fH V g false 0 0 0 0 k b (pL s b) (pC s b) f vt vo (.slice none 0 0)/\Lz S w0 V g vt vo vs (s.extract b p) o l/\aZ V W.heap.size 0 0 0):=fun V hV=>by
  have ae:Below (W.setCell ⟨g,12,none⟩ (.slice none 0 0)).heap.size (W.setCell ⟨g,12,none⟩ (.slice none 0 0)) V:=((gt _ _).alloc (ge _) (.cells #[.int .i64 0,.int .i64 0,.int .i64 0] 33)).trans (hV.mono (by rw[Eq];omega));refine⟨af (ab I 12 (.slice none 0 0)) ae,(h2.set I 12 (.slice none 0 0)).below ae,?_⟩;have hn:=World.alloc_heap_new (W.setCell ⟨g,12,none⟩ (.slice none 0 0)) (.cells #[.int .i64 0,.int .i64 0,.int .i64 0] 33);rw[hsz]at hn;exact af hn hV
 have ak:=ku h2.kp.size;rw[M,hXC];clear M hXC;subst e2;clear I h2 hE hA hb hp
 go_enter func34,ntmps34
 go_wp2_with(first|(go_at_call 60;refine aj.out.mono ?_;rintro e w2⟨rfl,ad⟩;obtain⟨u1,u2,u3⟩:=HK.out _ ad;obtain⟨c0,c1,c2,c3,c4,c5,c6,c7,c8,c9,c10,c11,J⟩:=u1.cells;have z0:=u1.frozen 0;have z1:=u1.frozen 1;have z2:=u1.frozen 2;have z3:=u1.frozen 3;have z4:=u1.frozen 4;have z5:=u1.frozen 5;have z6:=u1.frozen 6;have z7:=u1.frozen 7;have z8:=u1.frozen 8;have z9:=u1.frozen 9;have am:=u1.frozen 10;have an:=u1.frozen 11;have ah:=u1.frozen 12;have ap:=ai u1;obtain⟨t1,t2⟩:=AO u1 (.bool false) (.int .i64 E) (.int .i64 A) (.int .i64 u) (.int .i64 XC) (.int .i64 0) (.int .i64 0) (.int .i64 0) (.int .i64 0) (.int .i64 0) (.slice none 0 0) (.slice none 0 0) (.slice none 0 0);have t3:=t2.blk u3 (fun e=>ag e.symm)))
 obtain⟨F,ac⟩:∃F,(((((((((((((w2.setCell ⟨g,0,none⟩ (.bool false)).setCell ⟨g,1,none⟩ (.int .i64 E)).setCell ⟨g,2,none⟩ (.int .i64 A)).setCell ⟨g,3,none⟩ (.int .i64 u)).setCell ⟨g,4,none⟩ (.int .i64 XC)).setCell ⟨g,5,none⟩ (.int .i64 0)).setCell ⟨g,6,none⟩ (.int .i64 0)).setCell ⟨g,7,none⟩ (.int .i64 0)).setCell ⟨g,8,none⟩ (.int .i64 0)).setCell ⟨g,9,none⟩ (.int .i64 0)).setCell ⟨g,10,none⟩ (.slice none 0 0)).setCell ⟨g,11,none⟩ (.slice none 0 0)).setCell ⟨g,12,none⟩ (.slice none 0 0))=F:=⟨_,rfl⟩;rw[ac]at t1 t2 t3 ⊢;clear ac c0 c1 c2 c3 c4 c5 c6 c7 c8 c9 c10 c11 J z0 z1 z2 z3 z4 z5 z6 z7 z8 z9 am an ah;have e1:JA F g E A u XC:=t1;have G:aZ F W.heap.size 0 0 0:=t3;obtain⟨c0,c1,c2,c3,c4,c5,c6,c7,c8,c9,c10,c11,J⟩:=fH.cells e1;have b0:=G.cell0;have b1:=G.cell1;have b2:=G.cell2;have k0:=G.frozen 0;have k1:=G.frozen 1;have k2:=G.frozen 2;have aq:=G.lt;have ar:=ai e1;have t5:=((G.set0 A).set1 u).set2 XC;have H:Kp (fun k=>k=W.heap.size) F (((F.setCell ⟨W.heap.size,0,none⟩ (.int .i64 A)).setCell ⟨W.heap.size,1,none⟩ (.int .i64 u)).setCell ⟨W.heap.size,2,none⟩ (.int .i64 XC)):=((Kp.set _ _ _ _).trans (Kp.set _ _ _ _)).trans (Kp.set _ _ _ _)
 have HF:Hid (Rt w0.heap.size (((F.setCell ⟨W.heap.size,0,none⟩ (.int .i64 A)).setCell ⟨W.heap.size,1,none⟩ (.int .i64 u)).setCell ⟨W.heap.size,2,none⟩ (.int .i64 XC)).drew (.slice sp l.length sc) l/\JA (((F.setCell ⟨W.heap.size,0,none⟩ (.int .i64 A)).setCell ⟨W.heap.size,1,none⟩ (.int .i64 u)).setCell ⟨W.heap.size,2,none⟩ (.int .i64 XC)).drew g E A u XC/\Kp S w0 (((F.setCell ⟨W.heap.size,0,none⟩ (.int .i64 A)).setCell ⟨W.heap.size,1,none⟩ (.int .i64 u)).setCell ⟨W.heap.size,2,none⟩ (.int .i64 XC)).drew):=by
  have r3:Rt w0.heap.size F (.slice sp l.length sc) l:=u2.rs.kp t2 (u2.rs.ne u1 (by decide));have r5:=r3.kp H (r3.ne G (by decide));have l5:=H.blk e1 ag;have k5:=(u2.kp.step t2 (fun j _ e=>by rw[e];exact u2.sg)).step H (fun j hj e=>by have:=ak.out;omega);exact⟨r5.below (gt _ _).drew,af l5 (gt _ _).drew,k5.then (gt _ _).drew⟩
 have m0:((((F.setCell ⟨W.heap.size,0,none⟩ (.int .i64 A)).setCell ⟨W.heap.size,1,none⟩ (.int .i64 u)).setCell ⟨W.heap.size,2,none⟩ (.int .i64 XC)).drew).cell? ⟨W.heap.size,0,none⟩=some (.int .i64 A):=t5.drew.cell0;have m1:((((F.setCell ⟨W.heap.size,0,none⟩ (.int .i64 A)).setCell ⟨W.heap.size,1,none⟩ (.int .i64 u)).setCell ⟨W.heap.size,2,none⟩ (.int .i64 XC)).drew).cell? ⟨W.heap.size,1,none⟩=some (.int .i64 u):=t5.drew.cell1;have m2:((((F.setCell ⟨W.heap.size,0,none⟩ (.int .i64 A)).setCell ⟨W.heap.size,1,none⟩ (.int .i64 u)).setCell ⟨W.heap.size,2,none⟩ (.int .i64 XC)).drew).cell? ⟨W.heap.size,2,none⟩=some (.int .i64 XC):=t5.drew.cell2;clear t1 t2 t3 G t5 H e1 u1 u2 u3 HK ad
 go_wp2_with fail
 go_region_law (fail)
 all_goals(
  go_wp2_with fail
  refine Kv (v:=.tuple #[.slice sp l.length sc,.int .i64 E,.agg #[.int .i64 A,.int .i64 u,.int .i64 XC]]) (by simp[results,Tryz.f34,go_sem,m0,m1,m2]) rfl ?_;exact⟨_,rfl,HF.out⟩)
theorem yn (s t q:ByteArray) (g:Bool) (d p:Nat) (w:World) (I:s.size<=2147483647) (G:¬(9223372036854775807<s.size+t.size)) (H:s++t=q)
  (F:∀w,Kb 61 #[.string q,.int .i64 0] w fun e w'=>e=.returned (.tuple #[.int .i64 p,.int .i64 d,.bool g])/\Kc w w') :
  Kb 84 #[.string s,.string t] w fun e w'=>e=.returned (.bool (g&&decide (s.size<d)))/\Kc w w':=by
 have u:Hid _:=F;clear F
 go_enter func84,ntmps84
 go_wp2_with fail
 refine(u.out _).mono ?_;rintro e w1⟨rfl,hb1⟩;clear u;cases g with
 |true=>
  go_wp2_with fail
  go_ret
  exact⟨by show Ending.returned (.bool _)=_;simp,hb1⟩
 |false=>
  go_wp2_with fail
  go_ret
  exact⟨rfl,hb1⟩
theorem ru (s t:ByteArray) (w:World) (u:s.size<=2147483647) (ht:t.size=3) :
  Kb 84 #[.string s,.string t] w fun e w'=>e=.returned (.bool (CJ s t))/\Kc w w':=by
 have F:(s++t).size=s.size+t.size:=by simp[ByteArray.size_append]
 exact yn s t (s++t) (gd (s++t) 0) (dw (s++t) 0) (dp (s++t) 0) w u (by omega) rfl (fun w=>vy (s++t) 0 w (by unfold maxLen;omega) (by omega) (by omega))
theorem xu (s:ByteArray) (u G:Bool) (w:World)
  (H:∀w,Kb 84 #[.string s,.string ⟨#[128,128,128]⟩] w fun e w'=>e=.returned (.bool u)/\Kc w w')
  (I:∀w,Kb 84 #[.string s,.string ⟨#[191,191,191]⟩] w fun e w'=>e=.returned (.bool G)/\Kc w w') :
  Kb 53 #[.string s] w fun e w'=>e=.returned (.bool (u||G))/\Kc w w':=by
 have J:Hid _:=H;have M:Hid _:=I;clear H I
 go_enter func53,ntmps53
 go_wp2_with fail
 refine(J.out _).mono ?_;rintro e w1⟨rfl,hb1⟩;cases u with
 |true=>
  go_wp2_with fail
  go_ret
  exact⟨rfl,hb1⟩
 |false=>
  go_wp2_with fail
  refine(M.out _).mono ?_;rintro e w2⟨rfl,F⟩
  go_wp2_with fail
  go_ret
  exact⟨rfl,hb1.trans (F.mono hb1.size)⟩
theorem lg (s:ByteArray) (w:World) (u:s.size<=2147483647) :
  Kb 53 #[.string s] w fun e w'=>e=.returned (.bool (opn s))/\Kc w w':=
 xu s _ _ w (fun w=>ru s _ w u rfl) (fun w=>ru s _ w u rfl)
theorem mD (s:ByteArray) (w:World) (hs:s.size<=2147483647) :
  Kb 29 #[.string s] w fun e w'=>e=.returned (.int .i64 (wh s))/\Kc w w':=by
 go_enter func29,ntmps29
 go_wp2_with fail
 go_loopw [3] (fun i wr=>∃n:Nat,1<=n/\n<=4/\i=.int .i64 n/\FD s (4-n) n=wh s/\Kc w wr) (fun i _=>4-(intOf i).toNat)
 case atStart=>exact⟨1,by omega,by omega,rfl,rfl,gt _ _⟩
 case round=>
  obtain⟨n,aa,ab,rfl,F,u⟩:=hrel
  by_cases h3:n<=3
  ·by_cases hsz:n<=s.size
   ·obtain⟨f,M⟩:∃f,4-n=f+1:=⟨3-n,by omega⟩;rw[M]at F;unfold FD at F;rw[Kd hsz]at F;have O:f=4-(n+1):=by omega
    subst O;have hc:Hid _:=lg (s.extract (s.size-n) s.size);have J:(s.extract (s.size-n) s.size).size<=2147483647:=by rw[ag s _ _ (ge _)];omega
    have G:=ku F;clear F M
    go_wp2_with fail
    refine(hc.out _ J).mono ?_;rintro e w1⟨rfl,H⟩;clear hc J
    generalize opn (s.extract (s.size-n) s.size)=g at *
    have I:=u.trans (H.mono u.size);clear H u;cases g with
    |true=>
     go_wp2_with fail
     go_ret
     exact⟨kf (by have h:=G.out;simp at h;omega),I⟩
    |false=>
     go_wp2_with fail
     go_roundw
     case rel=>exact⟨n+1,by omega,by omega,by go_num,by have h:=G.out;simpa using h,I⟩
     case measure=>simp[intOf];omega
   ·have G:Hid (s.size=wh s):=by
     show _=_
     rw[<-F];obtain⟨f,M⟩:∃f,4-n=f+1:=⟨3-n,by omega⟩;rw[M];unfold FD;rw[IO hsz]
    clear F
    go_wp2_with fail
    go_ret
    exact⟨kf (by rw[G.out]),u⟩
  ·have G:Hid (s.size=wh s):=by
    show _=_
    rw[<-F,show 4-n=0 by omega];rfl
   clear F
   go_wp2_with fail
   go_ret
   exact⟨kf (by rw[G.out]),u⟩
