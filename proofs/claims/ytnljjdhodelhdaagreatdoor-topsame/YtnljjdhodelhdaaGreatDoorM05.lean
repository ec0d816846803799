import Derived.Deep.Cut
import Derived.Deep.CutRange
import Derived.Test.YtnljjdhodelhdaaGreatDoorM04
set_option linter.unusedVariables false
set_option linter.unusedSimpArgs false
set_option maxHeartbeats 4000000
set_option maxRecDepth 100000
namespace Go.Proofs.YtnljjdhodelhdaaGreatDoor.Lx
open Go.RowKit
variable {s:ByteArray}{a y g f m k q x b:Nat}{w0 W W' w':World}{l:List Tv}{o:Bool}{p n:Int}
def TP (w0 w':World) (g:Nat) (s:ByteArray) (k a f:Nat) (l:List Tv):Prop:=
 if (ap s a k).2=0 then Rs w0 w' g s (ap s a k).1 a 0 (l++[tv s (cQ s k a (ap s a k).1 f)])
 else ∃a',bd s a'/\a<=a'/\Rs w0 w' g s a' a f l/\((ap s a k).2=102->a'=(ap s a k).1)
theorem TP.ok (hE:ap s a k=(y,0)) (h:Rs w0 w' g s y a 0 (l++[tv s (cQ s k a y f)])):TP w0 w' g s k a f l:=by
 unfold TP;rw [hE,IO rfl];exact h
theorem TP.bad {e a':Nat}(hE:ap s a k=(y,e)) (he:e≠0) (hb:bd s a') (ha:a<=a') (h:Rs w0 w' g s a' a f l) (h2:e=102->a'=y):TP w0 w' g s k a f l:=by
 unfold TP;rw [hE,Eq he];exact ⟨a',hb,ha,h,h2⟩
def gh (w:World) (g k:Nat):Nat:=match w.cell? ⟨g,k,none⟩ with
 |some (.int _ n)=>n.toNat
 |_=>0
theorem Gc {w:World}{n:Nat}(h:w.cell? ⟨g,k,none⟩=some (.int .i64 (n:Nat))):gh w g k=n:=by
 unfold gh;rw [h];simp
theorem Rs.at (h:Rs w0 W g s a b f l):gh W g 1=a:=by
 obtain ⟨h1,h2,v,h3,h4⟩:=h;exact Gc (Rq.cells h3).2.1
theorem Fj (s:ByteArray) (y:Nat) (h:gd s y=false):dp s y=65533:=by unfold dp;rw [MX s y h]
theorem My:jD (-1)=false:=by decide
theorem Mz:jD 65533=false:=by decide
theorem MN:fG 65533=false:=by decide
theorem Je (s:ByteArray) (y:Nat):jD (bj s y)=(decide (y<s.size) && (gd s y && jD (dp s y))):=by
 by_cases h:y<s.size
 ·rw [gF h,Q9 h,R6];cases e:gd s y with
  |true=>rfl
  |false=>rw [Fj s y e];exact Mz
 ·rw [kq (by omega),Rf h,My];rfl
theorem ei (s:ByteArray) (y:Nat) (h:y<s.size):fG (bj s y)=(gd s y && fG (dp s y)):=by
 rw [gF h];cases e:gd s y with
 |true=>rfl
 |false=>rw [Fj s y e];exact MN
theorem dP (s:ByteArray) (y:Nat):(decide (48<=bj s y) && decide (bj s y<=57))=(decide (y<s.size) && cM (ay s y)):=by
 by_cases h:y<s.size
 ·rw [gF h,Q9 h,R6];unfold cM;rw [SE];simp only [Q1,RC];constructor
  ·rintro ⟨h1,h2⟩;have:=FW s y (by omega);omega
  ·rintro ⟨h1,h2⟩;have:=(bv s y (by omega)).2.1;omega
 ·rw [kq (by omega),Rf h];rfl
theorem bL (s:ByteArray) (y c:Nat) (hc:c<128) (h:y<s.size):bj s y=(c:Int)↔ay s y=c:=by
 rw [gF h];constructor
 ·intro e;exact (Lj s y c hc).1 (by omega)
 ·intro e;have:=(Lj s y c hc).2 e;omega
theorem dv (s:ByteArray) (y:Nat):bj s y=-1↔s.size<=y:=by
 by_cases h:y<s.size
 ·rw [gF h];constructor <;> intro _ <;> omega
 ·rw [kq (by omega)];constructor <;> intro _ <;> first|omega|rfl
theorem FZ (s:ByteArray) (y:Nat) (h:y<s.size):(decide (bj s y<32) || decide (bj s y=127))=gn s y:=by
 rw [gF h];unfold gn;cases e:gd s y with
 |true=>grind
 |false=>rw [Fj s y e];rfl
theorem O2 (s:ByteArray) (y:Nat) (h:y<s.size):qr (bj s y)=cV (ay s y):=by
 unfold qr cV;rw [SE];simp only [Ri,RC,R5];have e1:=bL s y 32 (by decide) h;have e2:=bL s y 9 (by decide) h;have e3:=bL s y 13 (by decide) h;constructor
 ·grind
 ·grind
theorem Mh {E:Nat × Nat}(hx:x<s.size) (h:run (ci s a k) s.size x m=E) (hon:ci s a k x m=.on (dw s x)):x+dw s x<=s.size/\run (ci s a k) s.size (x+dw s x) (m+1)=E:=by
 refine ⟨(aW s x hx).2.2,?_⟩;rw [<-fD (da s a k) (by omega) hon];exact h
theorem uG {E:Nat × Nat}(hy:y<=s.size) (h:run (ci s a k) s.size y m=E) (hc:s.size<=y\/(k=1/\(gd s y && jD (dp s y))=false)\/(k=3/\cM (ay s y)=false)):E=(y,0):=by
 rw [<-h];refine cr hy ?_;unfold ci
 by_cases h1:s.size<=y
 ·rw [IO h1]
 ·rw [Eq h1,IO (hc.resolve_left h1)]
theorem uH {E:Nat × Nat}(hy:y<s.size) (h:run (ci s a k) s.size y m=E) (hc:¬((k=1/\(gd s y && jD (dp s y))=false)\/(k=3/\cM (ay s y)=false))) (hf:65535<y+dw s y-a):E=(a,103):=by
 rw [<-h];refine cr (by omega) ?_;unfold ci;rw [Eq (by omega),Eq hc,IO hf]
theorem sd (hy:y<s.size) (hc:¬((k=1/\(gd s y && jD (dp s y))=false)\/(k=3/\cM (ay s y)=false))) (hf:¬65535<y+dw s y-a):ci s a k y m=.on (dw s y):=by
 unfold ci;rw [Eq (by omega),Eq hc,Eq hf]
theorem oS {E:Nat × Nat}(hy:y<=s.size) (h:run (cy s a q o) s.size y m=E) (hc:s.size<=y\/ay s y=10):E=(a,101):=by
 rw [<-h];refine cr hy ?_;unfold cy;rw [IO hc]
theorem D5 {E:Nat × Nat}(hy:y<s.size) (h:run (cy s a q o) s.size y m=E) (hc:ay s y≠10) (hf:65535<y+dw s y-a):E=(a,103):=by
 rw [<-h];refine cr (by omega) ?_;unfold cy;rw [Eq (by rintro (h|h);omega;exact hc h),IO hf]
theorem zh {E:Nat × Nat}(hy:y<s.size) (h:run (cy s a q o) s.size y m=E) (hc:ay s y≠10) (hf:¬65535<y+dw s y-a) (hq:ay s y=q/\(o=false\/m=1)):E=(y+1,0):=by
 rw [<-h];refine cr (by omega) ?_;unfold cy;rw [Eq (by rintro (h|h);omega;exact hc h),Eq hf,IO hq]
theorem jj {E:Nat × Nat}(hy:y<s.size) (h:run (cy s a q o) s.size y m=E) (hc:ay s y≠10) (hf:¬65535<y+dw s y-a) (hq:¬(ay s y=q/\(o=false\/m=1))) (hb:gn s y=true\/(o=true/\(m=1\/ay s y=q))):E=(y,102):=by
 rw [<-h];refine cr (by omega) ?_;unfold cy;rw [Eq (by rintro (h|h);omega;exact hc h),Eq hf,Eq hq,IO hb]
theorem uM {E:Nat × Nat}(hy:y<s.size) (h:run (cy s a q o) s.size y m=E) (hc:ay s y≠10) (hf:¬65535<y+dw s y-a) (hq:¬(ay s y=q/\(o=false\/m=1))) (hb:¬(gn s y=true\/(o=true/\(m=1\/ay s y=q)))):run (cy s a q o) s.size (y+dw s y) (m+1)=E:=by
 rw [<-h];refine (fD (fe s a q o) (by omega) ?_).symm;unfold cy;rw [Eq (by rintro (h|h);omega;exact hc h),Eq hf,Eq hq,Eq hb]
theorem Km (m:Nat) (hy:y<s.size) (h10:o=false->ay s y≠10) (h125:o=true->ay s y≠125) (hf:y+1-a<=65535):run (bI s a o) s.size y m=run (bI s a o) s.size (y+1) (m+1):=by
 refine fD (dd s a o) (by omega) ?_;unfold bI;rw [Eq (by omega),Eq (by rintro ⟨h1,h2⟩;exact h10 h1 h2),Eq (by omega),Eq (by rintro ⟨h1,h2⟩;exact h125 h1 h2)]
theorem tF :∀(i m:Nat),(∀j,j<i->y+j<s.size/\(o=false->ay s (y+j)≠10)/\(o=true->ay s (y+j)≠125)/\y+j+1-a<=65535)->run (bI s a o) s.size y m=run (bI s a o) s.size (y+i) (m+i)
 |0,m,_=>rfl
 |i+1,m,h=>by
  rw [tF i m (fun j hj=>h j (by omega))];obtain ⟨h1,h2,h3,h4⟩:=h i (by omega);exact Km (m+i) h1 h2 h3 h4
theorem ym (s:ByteArray) (y j:Nat) (hy:y<s.size) (hj:j<dw s y):y+j<s.size/\(j≠0->ay s (y+j)≠10/\ay s (y+j)≠125):=by
 have:=(aW s y hy).2.2;refine ⟨by omega,fun h=>?_⟩;have:=(jx s y j (by omega) hj).2;omega
theorem No {E:Nat × Nat}(m:Nat) (hy:y<s.size) (h10:o=false->ay s y≠10) (h125:o=true->ay s y≠125) (hf:y+dw s y-a<=65535) (h:run (bI s a o) s.size y m=E):run (bI s a o) s.size (y+dw s y) (m+dw s y)=E:=by
 rw [<-h];refine (tF (dw s y) m (fun j hj=>?_)).symm;obtain ⟨h1,h2⟩:=ym s y j hy hj;refine ⟨h1,fun ho=>?_,fun ho=>?_,by omega⟩
 ·grind
 ·grind
theorem wA {E:Nat × Nat}(m:Nat) (hy:y<s.size) (h10:o=false->ay s y≠10) (hay:a<=y) (hb:y-a<=65535) (hf:65535<y+dw s y-a) (h:run (bI s a o) s.size y m=E):E=(a,103):=by
 obtain ⟨i,hi⟩:∃i,y+i=a+65535:=⟨a+65535-y,by omega⟩;have ai:i<dw s y:=by omega
 obtain ⟨d1,d2,d3⟩:=aW s y hy
 have last:∀z m,z<s.size->(o=false->ay s z≠10)->65535<z+1-a->run (bI s a o) s.size z m=(a,103):=by
  intro z m hz h1 h2;refine cr (by omega) ?_;unfold bI;rw [Eq (by omega),Eq (by rintro ⟨e1,e2⟩;exact h1 e1 e2),IO h2]
 by_cases h0:i=0
 ·rw [<-h];exact last y m hy h10 (by omega)
 ·by_cases c:o=true/\ay s y=125
  ·exfalso
   have:=(bv s y (by omega)).1;omega
  ·rw [<-h,tF i m (fun j hj=>?_)]
   ·have h2:=ym s y i hy ai;exact last (y+i) _ h2.1 (fun _=>(h2.2 h0).1) (by omega)
   ·obtain ⟨h1,h2⟩:=ym s y j hy (by omega);refine ⟨h1,fun ho=>?_,fun ho=>?_,by omega⟩
    ·by_cases e:j=0
     ·subst e;exact h10 ho
     ·exact (h2 e).1
    ·by_cases e:j=0
     ·subst e;exact fun e2=>c ⟨ho,e2⟩
     ·exact (h2 e).2
theorem F8 {E:Nat × Nat}(hy:y<=s.size) (h:run (bI s a false) s.size y m=E) (hc:s.size<=y\/ay s y=10):E=(y,0):=by
 rw [<-h];refine cr hy ?_;unfold bI
 by_cases h1:s.size<=y
 ·rw [IO h1];rfl
 ·rw [Eq h1,IO ⟨rfl,hc.resolve_left h1⟩]
theorem F7 {E:Nat × Nat}(hy:y<=s.size) (h:run (bI s a true) s.size y m=E) (hc:s.size<=y):E=(a,101):=by
 rw [<-h];refine cr hy ?_;unfold bI;rw [IO hc];rfl
theorem Cs {E:Nat × Nat}(hy:y<s.size) (h:run (bI s a true) s.size y m=E) (hc:ay s y=125) (hf:y+1-a<=65535):E=(y+1,0):=by
 rw [<-h];refine cr (by omega) ?_;unfold bI;rw [Eq (by omega),Eq (by rintro ⟨e1,e2⟩;cases e1),Eq (by omega),IO ⟨rfl,hc⟩]
theorem Rq.told {v v':Value}(h1:Below w0.heap.size w0 W) (h2:w0.heap.size<=g) (h3:RB W g s a p n b f v) (h4:Rt w0.heap.size W v' l) :
  Rq w0 ((W.setCell ⟨g,8,none⟩ v').setCell ⟨g,7,none⟩ (.int .i64 0)) g s a p n b 0 l:=by
 have hne:=h4.ne h3 (by decide);refine ⟨(h1.setCell (p:=⟨g,8,none⟩) h2 _).setCell (p:=⟨g,7,none⟩) h2 _,h2,v',?_,?_⟩
 ·exact aj (aj h3 8 _) 7 _
 ·exact (h4.kp (Kp.set _ g 8 _) hne).kp (Kp.set _ g 7 _) hne
theorem Dt {ops:Array Oper}{o:Oper}{a:Act}{K:Act->World->Prop}{Q:Exit->Act->World->Prop}{E:Prop}(hgd:o.guard=none) (s x:Operand)
  (ho:o.op=.call { callee:=.builtin .append,args:=#[s,x],argTypes:=#[27,27] }) (B:Nat) (v:Value) (l:List Tv) (d:Tv) (hs:a.eval s=v) (hr:Rt B W v l)
  (g c:Nat) (hx:a.eval x=.slice (some ⟨g,0,none⟩) 1 c) (hg:W.heap[g]?=some (.cells #[.int .u8 d.k,.string d.t,.int .i64 d.a,.int .i64 d.l,.int .i64 d.c,.int .i64 d.f] 35 (0,0))) (hl:l.length<=2147483647) (hB:B<=W.heap.size)
  (h:∀q cap w',Rt B w' (.slice (some ⟨q,0,none⟩) (l.length+1) cap) (l++[d])->Below B W w'->W.grownBy w' v.ownBlock->K (a.put o.dst (.slice (some ⟨q,0,none⟩) (l.length+1) cap)) w') :
  if Region.wanted o (yielded ops a.tmps)=true then Oper.wp Tryz.prog o a W K Q else E:=by
 obtain ⟨i0,hi,hz0,hz1,hz2⟩:=St Tryz.info35;refine TX W hgd s x 27 ho B 35 i0 _ 6 56 Tryz.underlying27 hi hz0 hz1 hz2 rfl (by decide) v _ _ hs hr ⟨g,0,none⟩ 1 c (G0 [d]) hx (by rw [Hv];rfl) ?_ (Hu [d]) (by omega) (by unfold maxLen;omega) (by omega) hB _ rfl ?_
 ·intro j u hu;refine Se hg j u ?_;have e:G0 [d]=[.int .u8 d.k,.string d.t,.int .i64 d.a,.int .i64 d.l,.int .i64 d.c,.int .i64 d.f]:=by simp [G0,bB,Tv.cs]
  rw [e] at hu
  simpa using hu
 ·intro q cap w' a1 a2 a3 _;refine h q cap w' ?_ ((hH B W).grown a2 hB hr.own) a2;unfold Rt;rw [Or,Hx];exact a1
theorem AT (h:Rq w0 W g s a p n b f l) (k:Nat) (T:ByteArray) (hT:(if k=7 then s.extract b (be s a) else s.extract b a)=T) (h7:k=7->b<a/\cV (ay s b)=false) (hs:s.size<=2147483647) (hba:b<=a) (ha:a<=s.size) (hl:l.length<=2147483647) :
  Ra 83 #[.pointer (some ⟨g,0,none⟩),.int .u8 k] W fun e w'=>e=.returned (.int .i64 0)/\Rq w0 w' g s a p n b 0 (l++[⟨k,T,b,pL s b,pC s b,f⟩]):=by
 obtain ⟨h1,h2,v,h3,h4⟩:=h
 have hTz:T.size<=2147483647:=by
  rw [<-hT];have:=fS s a
  split
  ·rw [az s b _ (by omega)];omega
  ·rw [az s b a ha];omega
 obtain ⟨U,hU⟩:∃U,s.extract b a=U:=⟨_,rfl⟩
 have HTr:Hid (k=7->∀V,Ra 129 #[.string U,.string ⟨#[32,9,13]⟩] V fun e w'=>e=.returned (.string T)/\Rc V w'):=fun hk V=>by
  have h8:=De U V (by rw [<-hU,az s b a ha];omega);rw [IO hk] at hT;rw [<-hU,Hm s b a (h7 hk).1 ha (h7 hk).2,hT] at h8;rw [<-hU];exact h8
 have HTn:Hid (k≠7->U=T):=fun hk=>by rw [Eq hk] at hT;rw [<-hU];exact hT
 have HB:Hid (Ra 91 #[.pointer (some ⟨g,0,none⟩)] W fun e w'=>e=.returned (.string U)/\∃m,w'=W.drewN m):=by rw [<-hU];exact jz h3 hs hba ha
 have HC:Hid (∀V,Ra 130 #[.string T] V fun e w'=>e=.returned (.string T)/\Rc V w'):=fun V=>Cx T V hTz
 have HK:Hid (∀V,Rc W V->Rc w0 V/\RB V g s a p n b f v/\Rt w0.heap.size V v l):=fun V hb=>⟨h1.trans (hb.mono h1.size),ag h3 hb,h4.below hb⟩
 obtain ⟨vp,vc,rfl,hv1,hv2⟩:=h4.shape;clear h1 h3 h4 hT h7 hU
 go_enter Tryz.func83,Tryz.ntmps83
 go_upto_if 9 with (first|(go_at_call 91;refine HB.out.mono ?_;rintro e w1 ⟨rfl,m,hw⟩;have hb0:=dZ W m;rw [<-hw] at hb0;clear hw))
 go_cut [5] from 9 (fun t wx=>t=.string T/\Hid (Below W.heap.size W wx))
 case first=>
  by_cases hk:k=7
  ·have q1:((k:Int) == 7)=true:=by simp;omega
   have HKk:Hid (k=7):=hk;clear hk
   go_wp2_with (first|(go_at_call 129;refine (HTr.out HKk.out _).mono ?_;rintro e w2 ⟨rfl,hb2⟩))
   go_meet
   exact ⟨rfl,hb0.trans (hb2.mono hb0.size)⟩
  ·have q1:((k:Int) == 7)=false:=by simp;omega
   have HKk:Hid (k≠7):=hk;clear hk
   go_wp2_with fail
   go_meet
   exact ⟨by rw [HTn.out HKk.out],hb0⟩
 case rest=>
  obtain ⟨rfl,HW⟩:=hcut;have hb0:=HW.out
  go_wp2_with fail
  have HK1:Hid (∀V,Rc wc V->Rc w0 V/\RB V g s a p n b f (.slice vp l.length vc)/\Rt w0.heap.size V (.slice vp l.length vc) l):=fun V hb=>HK.out V (hb0.trans (hb.mono hb0.size))
  obtain ⟨_,k3,_⟩:=HK1.out _ (hH _ _);obtain ⟨c0,c1,c2,c3,c4,c5,c6,c7,c8⟩:=Rq.cells k3;have hlt:=au k3;clear HK HB hb0 k3 c0 c1 c2 c3
  have HA:Hid (∀V q cap w',Rc wc V->Rt w0.heap.size w' (.slice (some ⟨q,0,none⟩) (l.length+1) cap) (l++[⟨k,T,b,pL s b,pC s b,f⟩])->Below w0.heap.size V w'->V.grownBy w' (Value.slice vp l.length vc).ownBlock->RB w' g s a p n b f (.slice vp l.length vc)/\Rc w0 w'):=fun V q cap w' hV hr hb hg=>by
   obtain ⟨x1,x3,x4⟩:=HK1.out _ hV;exact ⟨(Kp.of_grown hg).blk x3 (fun e=>x4.ne x3 (by decide) _ e.symm rfl),x1.trans hb⟩
  go_region_law (first|(go_simp;go_at_call 130;refine (HC.out _).mono ?_;rintro e w2 ⟨rfl,hb2⟩;have hbW:Below wc.heap.size wc w2:=(hH wc.heap.size wc).drew.trans (hb2.mono (gt _));obtain ⟨y1,y3,yr⟩:=HK1.out _ hbW;obtain ⟨_,_,_,_,y4,y5,y6,y7,y8⟩:=Rq.cells y3;have hlt2:=au y3;have hs0:=y1.size)|(refine Dt (by rfl) _ _ (by rfl) w0.heap.size (.slice vp l.length vc) l ⟨k,T,b,pL s b,pC s b,f⟩ (by rfl) (yr.below ((hH _ _).alloc (gt _) _)) w2.heap.size 1 (by rfl) (aq _ _) hl (by rw [QX];exact Nat.le_succ_of_le hs0) ?_;intro q cap w3 hr3 hb3 hg3;obtain ⟨z3,z1⟩:=HA.out _ _ _ _ (hbW.alloc hbW.size _) hr3 hb3 hg3;have HF:Hid (Rq w0 ((w3.setCell ⟨g,8,none⟩ (.slice (some ⟨q,0,none⟩) (l.length+1) cap)).setCell ⟨g,7,none⟩ (.int .i64 0)) g s a p n b 0 (l++[⟨k,T,b,pL s b,pC s b,f⟩])):=Rq.told z1 h2 z3 hr3;have zf:=z3.frozen 8;have zc:w3.cell? ⟨g,8,none⟩=some (.slice vp l.length vc):=af z3 rfl;have zg:=z3.frozen 7;have zd:w3.cell? ⟨g,7,none⟩=some (.int .i64 f):=af z3 rfl;clear hr3 hb3 hg3 z3 z1 y1 y3 yr))
  all_goals (
   go_wp2_with fail
   go_ret
   exact ⟨rfl,HF.out⟩)
theorem dg (h:Rs w0 W g s y a f l) (k:Nat) (hs:s.size<=2147483647) (hay:a<=y) (hy:y<=s.size) (hl:l.length<=2147483647) (h7:k=7->a<y/\cV (ay s a)=false) :
  Ra 83 #[.pointer (some ⟨g,0,none⟩),.int .u8 k] W fun e w'=>e=.returned (.int .i64 0)/\Rs w0 w' g s y a 0 (l++[tv s ⟨k,a,if k=7 then be s y else y,f⟩]):=by
 refine (AT h k _ rfl h7 hs hay hy hl).mono ?_;rintro e w' ⟨rfl,hr⟩;refine ⟨rfl,?_⟩
 have e:tv s ⟨k,a,if k=7 then be s y else y,f⟩=⟨k,if k=7 then s.extract a (be s y) else s.extract a y,a,pL s a,pC s a,f⟩:=by
  unfold tv
  by_cases e:k=7
  ·simp only [IO e]
  ·simp only [Eq e]
 rw [e];exact hr
theorem O7 (h:ak s a=3):cM (ay s a)=true:=by
 unfold ak at h
 repeat' split at h
 all_goals first|assumption|(cases h;done)
theorem O8 (h:ak s a=1):(gd s a && fG (dp s a))=true:=by
 unfold ak at h
 repeat' split at h
 all_goals first|assumption|(cases h;done)
theorem O6 (h:ak s a=4):ay s a=34:=by
 unfold ak at h
 repeat' split at h
 all_goals first|assumption|(cases h;done)
theorem O5 (h:ak s a=5):ay s a=39:=by
 unfold ak at h
 repeat' split at h
 all_goals first|assumption|(cases h;done)
theorem Nz (h:ak s a=7):ay s a=47/\a+1<s.size/\ay s (a+1)=47:=by
 unfold ak at h
 repeat' split at h
 all_goals first|assumption|(cases h;done)
theorem O4 (h:ak s a=8):ay s a=123:=by
 unfold ak at h
 repeat' split at h
 all_goals first|assumption|(cases h;done)
theorem Nl {c:Nat}(h:cM c=true):48<=c/\c<=57:=by
 unfold cM at h
 simpa using h
structure JN (w0 W:World) (g:Nat) (s:ByteArray) (k a f:Nat) (l:List Tv) (x:Nat):Prop where
 ax:a<=x
 xs:x<s.size
 bx:bd s x
 rs:Rs w0 W g s x a f l
 on:∃m,run (ci s a k) s.size x m=ap s a k/\ci s a k x m=.on (dw s x)
theorem JN.next (h:JN w0 W g s k a f l x) (hr:Rs w0 W' g s (x+fj s x) a f l) :
  ∃y,x<y/\a<=y/\y<=s.size/\bd s y/\Rs w0 W' g s y a f l/\∃m,run (ci s a k) s.size y m=ap s a k:=by
 obtain ⟨h1,h2,h3,h4,m,h5,h6⟩:=h;obtain ⟨e1,e2⟩:=Mh h2 h5 h6;have d:=(aW s x h2).1;rw [cg h2] at hr;exact ⟨x+dw s x,by omega,by omega,e1,jB h3 h2,hr,m+1,e2⟩
theorem Jl (h:Rs w0 W g s a a f l) (hs:s.size<=2147483647) (ha:a<s.size) (hb:bd s a) (hk:ak s a=3) (hl:l.length<=2147483647) :
  Ra 38 #[.pointer (some ⟨g,0,none⟩)] W fun e w'=>e=.returned (.int .i64 ((ap s a 3).2:Nat))/\TP w0 w' g s 3 a f l:=by
 have hd:=O7 hk;have hd2:=Nl hd;have hE:ap s a 3=run (ci s a 3) s.size a 0:=by unfold ap;simp
 have hw:=(bv s a (by omega)).1;have hJ0:JN w0 W g s 3 a f l a:=⟨gt _,ha,hb,h,0,hE.symm,sd ha (by rintro (⟨h,_⟩|⟨_,h⟩);cases h;rw [hd] at h;cases h) (by omega)⟩
 have HT:Hid (∀V x,JN w0 V g s 3 a f l x->Ra 80 #[.pointer (some ⟨g,0,none⟩)] V fun e w'=>e=.returned (.tuple #[])/\∃y,x<y/\a<=y/\y<=s.size/\bd s y/\Rs w0 w' g s y a f l/\∃m,run (ci s a 3) s.size y m=ap s a 3):=fun V x hx=>by
  refine (cu hx.rs hs (R4 hx.xs)).mono ?_;rintro e w' ⟨rfl,hr⟩;exact ⟨rfl,hx.next hr⟩
 have HD:Hid (∀p V,Ra 37 #[.int .i32 p] V fun e w'=>e=.returned (.bool (decide (48<=p) && decide (p<=57)))/\w'=V):=bR
 have HP:Hid (∀V y,Rs w0 V g s y a f l->a<=y->y<=s.size->(Ra 83 #[.pointer (some ⟨g,0,none⟩),.int .u8 3] V fun e w'=>e=.returned (.int .i64 0)/\Rs w0 w' g s y a 0 (l++[tv s (cQ s 3 a y f)]))/\(Ra 85 #[.pointer (some ⟨g,0,none⟩)] V fun e w'=>e=.returned (.bool (decide (65535<y+fj s y-a)))/\Rs w0 w' g s y a f l)):=fun V y hr h1 h2=>by
  constructor
  ·exact dg hr 3 hs h1 h2 hl (by intro h;cases h)
  ·obtain ⟨h1',h2',v,h3,h4⟩:=hr;refine (fY h3 hs h1 h2 (by by_cases e:y<s.size;rw [cg e];exact (aW s y e).2.1;rw [gr (by omega)];omega)).mono ?_;rintro e w' ⟨rfl,hb⟩;exact ⟨rfl,Rq.below ⟨h1',h2',v,h3,h4⟩ hb⟩
 have HC:Hid (∀V y,Rs w0 V g s y a f l->V.cell? ⟨g,2,none⟩=some (.int .i32 (bj s y))):=fun V y hr=>by
  obtain ⟨h1',h2',v,h3,h4⟩:=hr;exact (Rq.cells h3).2.2.1
 have c2:=HC.out _ _ h;have q0:(decide (48<=bj s a) && decide (bj s a<=57))=true:=by rw [dP,Q9 ha,hd];rfl
 have HJ0:Hid (JN w0 W g s 3 a f l a):=hJ0;have HD0:Hid (Ra 37 #[.int .i32 (bj s a)] W fun e w'=>e=.returned (.bool true)/\w'=W):=by rw [<-q0];exact bR _ _
 clear hd hd2 hE hw hJ0 h hk q0
 go_enter Tryz.func38,Tryz.ntmps38
 go_wp2_with fail
 refine TD 0 (fun a' w'=>∃(x:Nat) (u1 u2 u3 u4 u5 u6 u7 u8 u9 u10 u11 u12 u13 u14 u15 u16 u17 u18 u19 u20 u21 u22 u23 u24 u25 u26 u27 u28 u29 u30 u31 u32 u33 u34 u35 u36 u37 u38:Value),Hid (JN w0 w' g s 3 a f l x)/\a'={ tmps:=#[.pointer (some ⟨g,0,none⟩),u1,u2,u3,u4,u5,u6,u7,u8,u9,u10,u11,u12,u13,u14,u15,u16,u17,u18,u19,u20,u21,u22,u23,u24,u25,u26,u27,u28,u29,u30,u31,u32,u33,u34,u35,u36,u37,u38],defers:=[] }) (fun _ w'=>s.size-gh w' g 1) rfl ?_ ?_
 ·go_wp2_with (first|(go_at_call 37;refine HD0.out.mono ?_;rintro e w1 ⟨rfl,hw⟩;replace hw:=hw.symm;subst hw))
  go_step3
  exact ⟨rfl,a,_,_,_,_,_,_,_,_,_,_,_,_,_,_,_,_,_,_,_,_,_,_,_,_,_,_,_,_,_,_,_,_,_,_,_,_,_,_,HJ0,rfl⟩
 ·rintro a' w' ⟨x,u1,u2,u3,u4,u5,u6,u7,u8,u9,u10,u11,u12,u13,u14,u15,u16,u17,u18,u19,u20,u21,u22,u23,u24,u25,u26,u27,u28,u29,u30,u31,u32,u33,u34,u35,u36,u37,u38,HJ,rfl⟩;have HX:Hid (gh w' g 1=x/\x<s.size):=⟨HJ.out.rs.at,HJ.out.xs⟩
  go_wp2_with fail
  refine (HT.out _ _ HJ.out).mono ?_;rintro e w1 ⟨rfl,y,y1,y2,y3,y4,y5,m,y6⟩;have z2:=HC.out _ _ y5;obtain ⟨t1,t2⟩:=HP.out _ _ y5 y2 y3;have HY:Hid (Rs w0 w1 g s y a f l/\bd s y/\run (ci s a 3) s.size y m=ap s a 3):=⟨y5,y4,y6⟩;clear HJ y5 y4 y6 c2
  by_cases hc:(decide (48<=bj s y) && decide (bj s y<=57))=true
  ·have HDy:Hid (Ra 37 #[.int .i32 (bj s y)] w1 fun e w'=>e=.returned (.bool true)/\w'=w1):=by rw [<-hc];exact bR _ _
   have hc2:=hc;rw [dP,Q1,RC] at hc2;obtain ⟨d1,d2⟩:=hc2
   have HN:Hid (¬((3=1/\(gd s y && jD (dp s y))=false)\/((3:Nat)=3/\cM (ay s y)=false))):=by
    show ¬_
    rintro (⟨h,_⟩|⟨_,h⟩)
    ·cases h
    ·rw [d2] at h;cases h
   have HF2:Hid (Ra 85 #[.pointer (some ⟨g,0,none⟩)] w1 fun e w'=>e=.returned (.bool (decide (65535<y+fj s y-a)))/\Rs w0 w' g s y a f l):=t2;rw [cg d1] at HF2;clear hc t1 t2
   by_cases hf:65535<y+dw s y-a
   ·have HE:Hid (ap s a 3=(a,103)):=uH d1 HY.out.2.2 HN.out hf;rw [Q9 hf] at HF2;clear hf
    go_wp2_with (first|(go_at_call 37;refine HDy.out.mono ?_;rintro e w2 ⟨rfl,hw⟩;replace hw:=hw.symm;subst hw)|(go_at_call 85;refine HF2.out.mono ?_;rintro e w3 ⟨rfl,hr3⟩))
    simp only [Exit.jump]
    go_ret
    rw [HE.out];exact ⟨rfl,TP.bad HE.out (by decide) HY.out.2.1 y2 hr3 (by intro h;cases h)⟩
   ·have HO:Hid (ci s a 3 y m=.on (dw s y)):=sd d1 HN.out hf;rw [Rf hf] at HF2;clear hf
    go_wp2_with (first|(go_at_call 37;refine HDy.out.mono ?_;rintro e w2 ⟨rfl,hw⟩;replace hw:=hw.symm;subst hw)|(go_at_call 85;refine HF2.out.mono ?_;rintro e w3 ⟨rfl,hr3⟩))
    go_step3
    refine ⟨rfl,⟨y,_,_,_,_,_,_,_,_,_,_,_,_,_,_,_,_,_,_,_,_,_,_,_,_,_,_,_,_,_,_,_,_,_,_,_,_,_,_,⟨y2,d1,HY.out.2.1,hr3,m,HY.out.2.2,HO.out⟩,rfl⟩,?_⟩;rw [HX.out.1,hr3.at];have:=HX.out.2;omega
  ·have hc1:(decide (48<=bj s y) && decide (bj s y<=57))=false:=by simpa using hc
   have HDy:Hid (Ra 37 #[.int .i32 (bj s y)] w1 fun e w'=>e=.returned (.bool false)/\w'=w1):=by rw [<-hc1];exact bR _ _
   have HE:Hid (ap s a 3=(y,0)):=by
    refine uG y3 HY.out.2.2 ?_;rw [dP] at hc1
    by_cases e:y<s.size
    ·rw [Q9 e,R6] at hc1;exact .inr (.inr ⟨rfl,hc1⟩)
    ·exact .inl (by omega)
   have HTl:Hid (Ra 83 #[.pointer (some ⟨g,0,none⟩),.int .u8 3] w1 fun e w'=>e=.returned (.int .i64 0)/\Rs w0 w' g s y a 0 (l++[tv s (cQ s 3 a y f)])):=t1;clear hc hc1 t1 t2
   go_wp2_with (first|(go_at_call 37;refine HDy.out.mono ?_;rintro e w2 ⟨rfl,hw⟩;replace hw:=hw.symm;subst hw)|(go_at_call 83;refine HTl.out.mono ?_;rintro e w3 ⟨rfl,hr3⟩))
   simp only [Exit.jump]
   go_ret
   rw [HE.out];exact ⟨rfl,TP.ok HE.out hr3⟩
theorem EL (hK:qk w0) (h:Rs w0 W g s a a f l) (hs:s.size<=2147483647) (ha:a<s.size) (hb:bd s a) (hk:ak s a=1) (hl:l.length<=2147483647) :
  Ra 38 #[.pointer (some ⟨g,0,none⟩)] W fun e w'=>e=.returned (.int .i64 ((ap s a 1).2:Nat))/\TP w0 w' g s 1 a f l:=by
 have hd:=O8 hk;have hE:ap s a 1=run (ci s a 1) s.size a 0:=by unfold ap;simp
 obtain ⟨hw1,hw2,hw3⟩:=aW s a ha
 have hd3:(gd s a && jD (dp s a))=true:=by
  rw [Q1] at hd ⊢;exact ⟨hd.1,uR hd.2⟩
 have HJ:Hid (JN w0 W g s 1 a f l a):=⟨gt _,ha,hb,h,0,hE.symm,sd ha (by rintro (⟨_,h⟩|⟨h,_⟩);rw [hd3] at h;cases h;cases h) (by omega)⟩
 have HT:Hid (∀V x,JN w0 V g s 1 a f l x->Ra 80 #[.pointer (some ⟨g,0,none⟩)] V fun e w'=>e=.returned (.tuple #[])/\∃y,x<y/\a<=y/\y<=s.size/\bd s y/\Rs w0 w' g s y a f l/\∃m,run (ci s a 1) s.size y m=ap s a 1):=fun V x hx=>by
  refine (cu hx.rs hs (R4 hx.xs)).mono ?_;rintro e w' ⟨rfl,hr⟩;exact ⟨rfl,hx.next hr⟩
 have HFl:Hid (∀V y,Rs w0 V g s y a f l->a<=y->y<=s.size->Ra 85 #[.pointer (some ⟨g,0,none⟩)] V fun e w'=>e=.returned (.bool (decide (65535<y+fj s y-a)))/\Rs w0 w' g s y a f l):=fun V y hr h1 h2=>by
  obtain ⟨h1',h2',v,h3,h4⟩:=hr;refine (fY h3 hs h1 h2 (by by_cases e:y<s.size;rw [cg e];exact (aW s y e).2.1;rw [gr (by omega)];omega)).mono ?_;rintro e w' ⟨rfl,hb⟩;exact ⟨rfl,Rq.below ⟨h1',h2',v,h3,h4⟩ hb⟩
 have HC:Hid (∀V y,Rs w0 V g s y a f l->V.cell? ⟨g,2,none⟩=some (.int .i32 (bj s y))):=fun V y hr=>by
  obtain ⟨h1',h2',v,h3,h4⟩:=hr;exact (Rq.cells h3).2.2.1
 have c2:=HC.out _ _ h
 have hdg:(decide (48<=bj s a) && decide (bj s a<=57))=false:=by
  cases e:(decide (48<=bj s a) && decide (bj s a<=57)) with
  |false=>rfl
  |true=>
   exfalso
   rw [gF ha,Q1,RC,RC] at e;rw [Q1] at hd;have h2:=RE hd.2;unfold CU at h2;omega
 have HD0:Hid (Ra 37 #[.int .i32 (bj s a)] W fun e w'=>e=.returned (.bool false)/\w'=W):=by rw [<-hdg];exact bR _ _
 clear hd hE hw1 hw2 hw3 hd3 h hk hdg
 go_enter Tryz.func38,Tryz.ntmps38
 go_wp2_with fail
 refine TD 1 (fun a' w'=>∃(x:Nat) (u1 u2 u3 u4 u5 u6 u7 u8 u9 u10 u11 u12 u13 u14 u15 u16 u17 u18 u19 u20 u21 u22 u23 u24 u25 u26 u27 u28 u29 u30 u31 u32 u33 u34 u35 u36 u37 u38:Value),Hid (JN w0 w' g s 1 a f l x)/\a'={ tmps:=#[.pointer (some ⟨g,0,none⟩),u1,u2,u3,u4,u5,u6,u7,u8,u9,u10,u11,u12,u13,u14,u15,u16,u17,u18,u19,u20,u21,u22,u23,u24,u25,u26,u27,u28,u29,u30,u31,u32,u33,u34,u35,u36,u37,u38],defers:=[] }) (fun _ w'=>s.size-gh w' g 1) rfl ?_ ?_
 rotate_left
 rintro a' w' ⟨x,u1,u2,u3,u4,u5,u6,u7,u8,u9,u10,u11,u12,u13,u14,u15,u16,u17,u18,u19,u20,u21,u22,u23,u24,u25,u26,u27,u28,u29,u30,u31,u32,u33,u34,u35,u36,u37,u38,HJ,rfl⟩;have HX:Hid (gh w' g 1=x/\x<s.size):=⟨HJ.out.rs.at,HJ.out.xs⟩
 rotate_left
 go_wp2_with (first|(go_at_call 37;refine HD0.out.mono ?_;rintro e w1 ⟨rfl,hw⟩;replace hw:=hw.symm;subst hw))
 go_step3
 clear c2
 all_goals (
  go_wp2_with fail
  refine (HT.out _ _ HJ.out).mono ?_;rintro e w1 ⟨rfl,y,y1,y2,y3,y4,y5,m,y6⟩;have z2:=HC.out _ _ y5;have hfl:=HFl.out _ _ y5 y2 y3;have HY:Hid (Rs w0 w1 g s y a f l/\bd s y/\run (ci s a 1) s.size y m=ap s a 1):=⟨y5,y4,y6⟩;have rg:=yW s y;have hwr:IntKind.i64.wrap (bj s y)=bj s y:=by rw [RQ];omega
  have HPt:Hid (Ra 82 #[.int .i64 (bj s y)] w1 fun e w'=>e=.returned (.bool (jD (bj s y)))/\w'=w1):=Es _ _ (hK.below y5.bel).1;have hpp:=Je s y;clear HJ y5 y4 y6
  by_cases hc:jD (bj s y)=true
  ·rw [hc] at HPt;rw [hc] at hpp;obtain ⟨d1,d2⟩:y<s.size/\(gd s y && jD (dp s y))=true:=by rw [eq_comm,Q1,RC] at hpp;exact hpp
   have HN:Hid (¬(((1:Nat)=1/\(gd s y && jD (dp s y))=false)\/(1=3/\cM (ay s y)=false))):=by
    show ¬_
    rintro (⟨_,h⟩|⟨h,_⟩)
    ·rw [d2] at h;cases h
    ·cases h
   have HF2:Hid (Ra 85 #[.pointer (some ⟨g,0,none⟩)] w1 fun e w'=>e=.returned (.bool (decide (65535<y+fj s y-a)))/\Rs w0 w' g s y a f l):=hfl;rw [cg d1] at HF2;clear hc hfl hpp d2
   by_cases hf:65535<y+dw s y-a
   ·have HE:Hid (ap s a 1=(a,103)):=uH d1 HY.out.2.2 HN.out hf;rw [Q9 hf] at HF2;clear hf
    go_wp2_with (first|(go_at_call 82;refine HPt.out.mono ?_;rintro e w2 ⟨rfl,hw⟩;replace hw:=hw.symm;subst hw)|(go_at_call 85;refine HF2.out.mono ?_;rintro e w3 ⟨rfl,hr3⟩))
    simp only [Exit.jump]
    go_ret
    rw [HE.out];exact ⟨rfl,TP.bad HE.out (by decide) HY.out.2.1 y2 hr3 (by intro h;cases h)⟩
   ·have HO:Hid (ci s a 1 y m=.on (dw s y)):=sd d1 HN.out hf;rw [Rf hf] at HF2;clear hf
    go_wp2_with (first|(go_at_call 82;refine HPt.out.mono ?_;rintro e w2 ⟨rfl,hw⟩;replace hw:=hw.symm;subst hw)|(go_at_call 85;refine HF2.out.mono ?_;rintro e w3 ⟨rfl,hr3⟩))
    go_step3
    refine ⟨rfl,?_⟩
    try refine ⟨?_,by rw [HX.out.1,hr3.at];have:=HX.out.2;omega⟩
    exact ⟨y,_,_,_,_,_,_,_,_,_,_,_,_,_,_,_,_,_,_,_,_,_,_,_,_,_,_,_,_,_,_,_,_,_,_,_,_,_,_,⟨y2,d1,HY.out.2.1,hr3,m,HY.out.2.2,HO.out⟩,rfl⟩
  ·have hc1:jD (bj s y)=false:=by simpa using hc
   rw [hc1] at HPt
   have HE:Hid (ap s a 1=(y,0)):=by
    refine uG y3 HY.out.2.2 ?_;rw [hc1] at hpp
    by_cases e:y<s.size
    ·rw [Q9 e,R6] at hpp;exact .inr (.inl ⟨rfl,hpp.symm⟩)
    ·exact .inl (by omega)
   have hKw:=hK.below HY.out.1.bel;obtain ⟨kd,hkd⟩:∃kd:Nat,(if ky (s.extract a y)=true then 2 else 1)=kd:=⟨_,rfl⟩
   have HWk:Hid (Ra 84 #[.pointer (some ⟨g,0,none⟩)] w1 fun e w'=>e=.returned (.int .u8 kd)/\Rs w0 w' g s y a f l):=by
    obtain ⟨h1',h2',v,h3,h4⟩:=HY.out.1;refine (rJ h3 hKw hs y2 y3).mono ?_;rintro e w' ⟨rfl,hb⟩;refine ⟨?_,Rq.below ⟨h1',h2',v,h3,h4⟩ hb⟩;rw [<-hkd];split <;> rfl
   have HTl:Hid (∀V,Rs w0 V g s y a f l->Ra 83 #[.pointer (some ⟨g,0,none⟩),.int .u8 kd] V fun e w'=>e=.returned (.int .i64 0)/\Rs w0 w' g s y a 0 (l++[tv s (cQ s 1 a y f)])):=fun V hV=>by
    have:=dg hV kd hs y2 y3 hl (by intro h;rw [<-hkd] at h;split at h <;> cases h);have e7:(if kd=7 then be s y else y)=y:=Eq (by rw [<-hkd];split <;> decide);rw [e7] at this
    have e8:cQ s 1 a y f=⟨kd,a,y,f⟩:=by
     unfold cQ;rw [<-hkd]
     congr 1
     by_cases e:ky (s.extract a y)=true
     ·rw [IO ⟨rfl,e⟩,IO e]
     ·rw [Eq (fun h=>e h.2),Eq e]
    rw [e8];exact this
   clear hc hc1 hfl hpp hKw hkd
   go_wp2_with (first|(go_at_call 82;refine HPt.out.mono ?_;rintro e w2 ⟨rfl,hw⟩;replace hw:=hw.symm;subst hw)|(go_at_call 84;refine HWk.out.mono ?_;rintro e w4 ⟨rfl,hr4⟩)|(go_at_call 83;refine (HTl.out _ hr4).mono ?_;rintro e w3 ⟨rfl,hr3⟩))
   simp only [Exit.jump]
   go_ret
   rw [HE.out];exact ⟨rfl,TP.ok HE.out hr3⟩)
structure JQ (w0 W:World) (g:Nat) (s:ByteArray) (a f:Nat) (l:List Tv) (x:Nat):Prop where
 ax:a<=x
 xs:x<s.size
 bx:bd s x
 rs:Rs w0 W g s x a f l
 on:∃m,run (cy s a 34 false) s.size (x+dw s x) m=ap s a 4
theorem JQ.next (h:JQ w0 W g s a f l x) (hr:Rs w0 W' g s (x+fj s x) a f l) :
  ∃y,x<y/\a<=y/\y<=s.size/\bd s y/\Rs w0 W' g s y a f l/\∃m,run (cy s a 34 false) s.size y m=ap s a 4:=by
 obtain ⟨h1,h2,h3,h4,m,h5⟩:=h;obtain ⟨d,_,d2⟩:=aW s x h2;rw [cg h2] at hr;exact ⟨x+dw s x,by omega,by omega,d2,jB h3 h2,hr,m,h5⟩
theorem Dg (h:Rs w0 W g s a a f l) (hs:s.size<=2147483647) (ha:a<s.size) (hb:bd s a) (hk:ak s a=4) (hl:l.length<=2147483647) :
  Ra 39 #[.pointer (some ⟨g,0,none⟩)] W fun e w'=>e=.returned (.int .i64 ((ap s a 4).2:Nat))/\TP w0 w' g s 4 a f l:=by
 have hd:=O6 hk;have hE:ap s a 4=run (cy s a 34 false) s.size (a+1) 0:=by unfold ap;simp
 have hw:=(bv s a (by omega)).1;have HJ:Hid (JQ w0 W g s a f l a):=⟨gt _,ha,hb,h,0,by rw [hw];exact hE.symm⟩
 have HT:Hid (∀V x,JQ w0 V g s a f l x->Ra 80 #[.pointer (some ⟨g,0,none⟩)] V fun e w'=>e=.returned (.tuple #[])/\∃y,x<y/\a<=y/\y<=s.size/\bd s y/\Rs w0 w' g s y a f l/\∃m,run (cy s a 34 false) s.size y m=ap s a 4):=fun V x hx=>by
  refine (cu hx.rs hs (R4 hx.xs)).mono ?_;rintro e w' ⟨rfl,hr⟩;exact ⟨rfl,hx.next hr⟩
 have HFl:Hid (∀V y,Rs w0 V g s y a f l->a<=y->y<=s.size->Ra 85 #[.pointer (some ⟨g,0,none⟩)] V fun e w'=>e=.returned (.bool (decide (65535<y+fj s y-a)))/\Rs w0 w' g s y a f l):=fun V y hr h1 h2=>by
  obtain ⟨h1',h2',v,h3,h4⟩:=hr;refine (fY h3 hs h1 h2 (by by_cases e:y<s.size;rw [cg e];exact (aW s y e).2.1;rw [gr (by omega)];omega)).mono ?_;rintro e w' ⟨rfl,hb⟩;exact ⟨rfl,Rq.below ⟨h1',h2',v,h3,h4⟩ hb⟩
 have HC:Hid (∀V y,Rs w0 V g s y a f l->V.cell? ⟨g,2,none⟩=some (.int .i32 (bj s y))):=fun V y hr=>by
  obtain ⟨h1',h2',v,h3,h4⟩:=hr;exact (Rq.cells h3).2.2.1
 have c2:=HC.out _ _ h;rw [(bL s a 34 (by decide) ha).2 hd] at c2;clear hd hE hw h hk
 go_enter Tryz.func39,Tryz.ntmps39
 go_wp2_with fail
 refine TD 1 (fun a' w'=>∃(x:Nat) (u1 u2 u3 u4 u5 u6 u7 u8 u9 u10 u11 u12 u13 u14 u15 u16 u17 u18 u19 u20 u21 u22 u23 u24 u25 u26 u27 u28 u29 u30 u31 u32 u33 u34 u35 u36 u37 u38 u39 u40 u41 u42 u43 u44 u45 u46 u47 u48 u49 u50 u51 u52 u53 u54 u55 u56 u57 u58 u59 u60 u61 u62 u63 u64 u65 u66 u67 u68 u69 u70 u71 u72 u73:Value),Hid (JQ w0 w' g s a f l x)/\a'={ tmps:=#[.pointer (some ⟨g,0,none⟩),u1,u2,u3,u4,u5,u6,u7,u8,u9,u10,u11,u12,u13,u14,u15,u16,u17,u18,u19,u20,u21,u22,u23,u24,u25,u26,u27,u28,u29,u30,u31,u32,u33,u34,u35,u36,u37,u38,u39,u40,u41,u42,u43,u44,u45,u46,u47,u48,u49,u50,u51,u52,u53,u54,u55,u56,u57,u58,u59,u60,u61,u62,u63,u64,u65,u66,u67,u68,u69,u70,u71,u72,u73],defers:=[] }) (fun _ w'=>s.size-gh w' g 1) rfl ?_ ?_
 rotate_left
 rintro a' w' ⟨x,u1,u2,u3,u4,u5,u6,u7,u8,u9,u10,u11,u12,u13,u14,u15,u16,u17,u18,u19,u20,u21,u22,u23,u24,u25,u26,u27,u28,u29,u30,u31,u32,u33,u34,u35,u36,u37,u38,u39,u40,u41,u42,u43,u44,u45,u46,u47,u48,u49,u50,u51,u52,u53,u54,u55,u56,u57,u58,u59,u60,u61,u62,u63,u64,u65,u66,u67,u68,u69,u70,u71,u72,u73,HJ,rfl⟩;have HX:Hid (gh w' g 1=x/\x<s.size):=⟨HJ.out.rs.at,HJ.out.xs⟩
 rotate_left
 go_wp2_with fail
 go_step3
 all_goals (
  clear c2
  go_wp2_with fail
  refine (HT.out _ _ HJ.out).mono ?_;rintro e w1 ⟨rfl,y,y1,y2,y3,y4,y5,m,y6⟩;have z2:=HC.out _ _ y5;have hfl:=HFl.out _ _ y5 y2 y3;have HY:Hid (Rs w0 w1 g s y a f l/\bd s y/\run (cy s a 34 false) s.size y m=ap s a 4):=⟨y5,y4,y6⟩;have hel:=dC (bj s y) w1;clear HJ y5 y4 y6
  by_cases hc:s.size<=y\/ay s y=10
  ·have e1:(decide (bj s y=10) || decide (bj s y=-1))=true:=by
    rw [Ri,RC,RC]
    rcases hc with h|h
    ·exact .inr ((dv s y).2 h)
    ·by_cases e:y<s.size
     ·exact .inl ((bL s y 10 (by decide) e).2 h)
     ·exact .inr ((dv s y).2 (by omega))
   rw [e1] at hel;have HEl:Hid (Ra 86 #[.int .i32 (bj s y)] w1 fun e w'=>e=.returned (.bool true)/\w'=w1):=hel;have HE:Hid (ap s a 4=(a,101)):=oS y3 HY.out.2.2 hc;clear hel e1 hc hfl
   go_wp2_with (first|(go_at_call 86;refine HEl.out.mono ?_;rintro e w2 ⟨rfl,hw⟩;replace hw:=hw.symm;subst hw))
   simp only [Exit.jump]
   go_ret
   rw [HE.out];exact ⟨rfl,TP.bad HE.out (by decide) HY.out.2.1 y2 HY.out.1 (by intro h;cases h)⟩
  ·obtain ⟨d1,d2⟩:y<s.size/\ay s y≠10:=⟨by omega,fun h=>hc (.inr h)⟩
   have e1:(decide (bj s y=10) || decide (bj s y=-1))=false:=by
    rw [Tq,Sj,Sj];exact ⟨fun h=>d2 ((bL s y 10 (by decide) d1).1 h),fun h=>by have:=(dv s y).1 h;omega⟩
   rw [e1] at hel;have HEl:Hid (Ra 86 #[.int .i32 (bj s y)] w1 fun e w'=>e=.returned (.bool false)/\w'=w1):=hel;have HF2:Hid (Ra 85 #[.pointer (some ⟨g,0,none⟩)] w1 fun e w'=>e=.returned (.bool (decide (65535<y+fj s y-a)))/\Rs w0 w' g s y a f l):=hfl;rw [cg d1] at HF2;clear hc hfl e1 hel
   by_cases hf:65535<y+dw s y-a
   ·have HE:Hid (ap s a 4=(a,103)):=D5 d1 HY.out.2.2 d2 hf;rw [Q9 hf] at HF2;clear hf
    go_wp2_with (first|(go_at_call 86;refine HEl.out.mono ?_;rintro e w2 ⟨rfl,hw⟩;replace hw:=hw.symm;subst hw)|(go_at_call 85;refine HF2.out.mono ?_;rintro e w3 ⟨rfl,hr3⟩;have z3:=HC.out _ _ hr3))
    simp only [Exit.jump]
    go_ret
    rw [HE.out];exact ⟨rfl,TP.bad HE.out (by decide) HY.out.2.1 y2 hr3 (by intro h;cases h)⟩
   ·rw [Rf hf] at HF2;have hct:=FZ s y d1
    by_cases hb:gn s y=true
    ·have HCt:Hid (∀V,Ra 87 #[.int .i32 (bj s y)] V fun e w'=>e=.returned (.bool true)/\w'=V):=fun V=>by
      rw [<-hb,<-hct];exact eZ _ _
     have HE:Hid (ap s a 4=(y,102)):=by
      refine jj d1 HY.out.2.2 d2 hf ?_ (.inl hb);rintro ⟨h,_⟩;unfold gn at hb;rw [(bv s y (by omega)).2.1,h] at hb;rw [Q1] at hb;exact absurd hb.2 (by decide)
     clear hf hb hct
     go_wp2_with (first|(go_at_call 86;refine HEl.out.mono ?_;rintro e w2 ⟨rfl,hw⟩;replace hw:=hw.symm;subst hw)|(go_at_call 85;refine HF2.out.mono ?_;rintro e w3 ⟨rfl,hr3⟩;have z3:=HC.out _ _ hr3)|(go_at_call 87;refine (HCt.out _).mono ?_;rintro e w4 ⟨rfl,hw⟩;replace hw:=hw.symm;subst hw))
     simp only [Exit.jump]
     go_ret
     rw [HE.out];exact ⟨rfl,TP.bad HE.out (by decide) HY.out.2.1 y2 hr3 (fun _=>rfl)⟩
    ·have hb1:gn s y=false:=by simpa using hb
     have HCt:Hid (∀V,Ra 87 #[.int .i32 (bj s y)] V fun e w'=>e=.returned (.bool false)/\w'=V):=fun V=>by
      rw [<-hb1,<-hct];exact eZ _ _
     by_cases hq:ay s y=34
     ·have HE:Hid (ap s a 4=(y+1,0)):=zh d1 HY.out.2.2 d2 hf ⟨hq,.inl rfl⟩;have q34:bj s y=34:=(bL s y 34 (by decide) d1).2 hq;have hw1:=(bv s y (by omega)).1
      have HT2:Hid (∀V,Rs w0 V g s y a f l->Ra 80 #[.pointer (some ⟨g,0,none⟩)] V fun e w'=>e=.returned (.tuple #[])/\Rs w0 w' g s (y+1) a f l):=fun V hV=>by
       have:=cu hV hs y3;rw [cg d1,hw1] at this;exact this
      have HTl:Hid (∀V,Rs w0 V g s (y+1) a f l->Ra 83 #[.pointer (some ⟨g,0,none⟩),.int .u8 4] V fun e w'=>e=.returned (.int .i64 0)/\Rs w0 w' g s (y+1) a 0 (l++[tv s (cQ s 4 a (y+1) f)])):=fun V hV=>dg hV 4 hs (by omega) (by omega) hl (by intro h;cases h)
      rw [q34] at HCt HEl;clear hf hb hb1 hct hq hw1
      go_wp2_with (first|(go_at_call 86;refine HEl.out.mono ?_;rintro e w2 ⟨rfl,hw⟩;replace hw:=hw.symm;subst hw)|(go_at_call 85;refine HF2.out.mono ?_;rintro e w3 ⟨rfl,hr3⟩;have z3:=HC.out _ _ hr3;rw [q34] at z3)|(go_at_call 87;refine (HCt.out _).mono ?_;rintro e w4 ⟨rfl,hw⟩;replace hw:=hw.symm;subst hw)|(go_at_call 80;refine (HT2.out _ hr3).mono ?_;rintro e w5 ⟨rfl,hr5⟩)|(go_at_call 83;refine (HTl.out _ hr5).mono ?_;rintro e w6 ⟨rfl,hr6⟩))
      simp only [Exit.jump]
      go_ret
      rw [HE.out];exact ⟨rfl,TP.ok HE.out hr6⟩
     ·have q34:(bj s y != 34)=true:=by
       rw [bne_iff_ne];exact fun h=>hq ((bL s y 34 (by decide) d1).1 h)
      have HO:Hid (run (cy s a 34 false) s.size (y+dw s y) (m+1)=ap s a 4):=uM d1 HY.out.2.2 d2 hf (fun h=>hq h.1) (by rintro (h|h);exact hb h;cases h.1);clear hf hb hb1 hct hq
      go_wp2_with (first|(go_at_call 86;refine HEl.out.mono ?_;rintro e w2 ⟨rfl,hw⟩;replace hw:=hw.symm;subst hw)|(go_at_call 85;refine HF2.out.mono ?_;rintro e w3 ⟨rfl,hr3⟩;have z3:=HC.out _ _ hr3)|(go_at_call 87;refine (HCt.out _).mono ?_;rintro e w4 ⟨rfl,hw⟩;replace hw:=hw.symm;subst hw))
      go_step3
      refine ⟨rfl,?_⟩
      try refine ⟨?_,by rw [HX.out.1,hr3.at];have:=HX.out.2;omega⟩
      exact ⟨y,_,_,_,_,_,_,_,_,_,_,_,_,_,_,_,_,_,_,_,_,_,_,_,_,_,_,_,_,_,_,_,_,_,_,_,_,_,_,_,_,_,_,_,_,_,_,_,_,_,_,_,_,_,_,_,_,_,_,_,_,_,_,_,_,_,_,_,_,_,_,_,_,_,⟨y2,d1,HY.out.2.1,hr3,m+1,HO.out⟩,rfl⟩)
structure JC (w0 W:World) (g:Nat) (s:ByteArray) (o:Bool) (k a f:Nat) (l:List Tv) (x:Nat):Prop where
 ax:a<=x
 xs:x<s.size
 bx:bd s x
 rs:Rs w0 W g s x a f l
 h10:o=false->ay s x≠10
 h125:o=true->ay s x≠125
 ful:x+dw s x-a<=65535
 on:∃m,run (bI s a o) s.size x m=ap s a k
theorem JC.next (h:JC w0 W g s o k a f l x) (hr:Rs w0 W' g s (x+fj s x) a f l) :
  ∃y,x<y/\a<y/\y<=s.size/\y-a<=65535/\bd s y/\Rs w0 W' g s y a f l/\∃m,run (bI s a o) s.size y m=ap s a k:=by
 obtain ⟨h1,h2,h3,h4,h5,h6,h7,m,h8⟩:=h;obtain ⟨d,_,d2⟩:=aW s x h2;rw [cg h2] at hr;exact ⟨x+dw s x,by omega,by omega,d2,h7,jB h3 h2,hr,_,No m h2 h5 h6 h7 h8⟩
theorem ES (h:Rs w0 W g s a a f l) (hs:s.size<=2147483647) (ha:a<s.size) (hb:bd s a) (hk:ak s a=7) (hl:l.length<=2147483647) :
  Ra 41 #[.pointer (some ⟨g,0,none⟩)] W fun e w'=>e=.returned (.int .i64 ((ap s a 7).2:Nat))/\TP w0 w' g s 7 a f l:=by
 have hd:ay s a=47:=(Nz hk).1;have hE:ap s a 7=run (bI s a false) s.size a 0:=by unfold ap;simp
 have hw:=(bv s a (by omega)).1;have hbl:cV (ay s a)=false:=by rw [hd];decide
 have HJ:Hid (JC w0 W g s false 7 a f l a):=⟨gt _,ha,hb,h,fun _=>by omega,fun _=>by omega,by omega,0,hE.symm⟩
 have HT:Hid (∀V x,JC w0 V g s false 7 a f l x->Ra 80 #[.pointer (some ⟨g,0,none⟩)] V fun e w'=>e=.returned (.tuple #[])/\∃y,x<y/\a<y/\y<=s.size/\y-a<=65535/\bd s y/\Rs w0 w' g s y a f l/\∃m,run (bI s a false) s.size y m=ap s a 7):=fun V x hx=>by
  refine (cu hx.rs hs (R4 hx.xs)).mono ?_;rintro e w' ⟨rfl,hr⟩;exact ⟨rfl,hx.next hr⟩
 have HFl:Hid (∀V y,Rs w0 V g s y a f l->a<=y->y<=s.size->Ra 85 #[.pointer (some ⟨g,0,none⟩)] V fun e w'=>e=.returned (.bool (decide (65535<y+fj s y-a)))/\Rs w0 w' g s y a f l):=fun V y hr h1 h2=>by
  obtain ⟨h1',h2',v,h3,h4⟩:=hr;refine (fY h3 hs h1 h2 (by by_cases e:y<s.size;rw [cg e];exact (aW s y e).2.1;rw [gr (by omega)];omega)).mono ?_;rintro e w' ⟨rfl,hb⟩;exact ⟨rfl,Rq.below ⟨h1',h2',v,h3,h4⟩ hb⟩
 have HC:Hid (∀V y,Rs w0 V g s y a f l->V.cell? ⟨g,2,none⟩=some (.int .i32 (bj s y))):=fun V y hr=>by
  obtain ⟨h1',h2',v,h3,h4⟩:=hr;exact (Rq.cells h3).2.2.1
 have c2:=HC.out _ _ h;rw [(bL s a 47 (by decide) ha).2 hd] at c2;clear hd hE hw h hk
 go_enter Tryz.func41,Tryz.ntmps41
 go_wp2_with fail
 refine TD 1 (fun a' w'=>∃(x:Nat) (u1 u2 u3 u4 u5 u6 u7 u8 u9 u10 u11 u12 u13 u14 u15 u16 u17 u18 u19 u20 u21 u22 u23 u24 u25 u26 u27 u28 u29 u30 u31 u32 u33 u34 u35 u36 u37 u38 u39 u40 u41:Value),Hid (JC w0 w' g s false 7 a f l x)/\a'={ tmps:=#[.pointer (some ⟨g,0,none⟩),u1,u2,u3,u4,u5,u6,u7,u8,u9,u10,u11,u12,u13,u14,u15,u16,u17,u18,u19,u20,u21,u22,u23,u24,u25,u26,u27,u28,u29,u30,u31,u32,u33,u34,u35,u36,u37,u38,u39,u40,u41],defers:=[] }) (fun _ w'=>s.size-gh w' g 1) rfl ?_ ?_
 rotate_left
 rintro a' w' ⟨x,u1,u2,u3,u4,u5,u6,u7,u8,u9,u10,u11,u12,u13,u14,u15,u16,u17,u18,u19,u20,u21,u22,u23,u24,u25,u26,u27,u28,u29,u30,u31,u32,u33,u34,u35,u36,u37,u38,u39,u40,u41,HJ,rfl⟩;have HX:Hid (gh w' g 1=x/\x<s.size):=⟨HJ.out.rs.at,HJ.out.xs⟩
 rotate_left
 go_wp2_with fail
 go_step3
 all_goals (
  clear c2
  go_wp2_with fail
  refine (HT.out _ _ HJ.out).mono ?_;rintro e w1 ⟨rfl,y,y1,y2,y3,yb,y4,y5,m,y6⟩;have z2:=HC.out _ _ y5;have hfl:=HFl.out _ _ y5 (R4 y2) y3;have HY:Hid (Rs w0 w1 g s y a f l/\bd s y/\run (bI s a false) s.size y m=ap s a 7):=⟨y5,y4,y6⟩;have hel:=dC (bj s y) w1;clear HJ y5 y4 y6
  by_cases hc:s.size<=y\/ay s y=10
  ·have e1:(decide (bj s y=10) || decide (bj s y=-1))=true:=by
    rw [Ri,RC,RC]
    rcases hc with h|h
    ·exact .inr ((dv s y).2 h)
    ·by_cases e:y<s.size
     ·exact .inl ((bL s y 10 (by decide) e).2 h)
     ·exact .inr ((dv s y).2 (by omega))
   rw [e1] at hel;have HEl:Hid (Ra 86 #[.int .i32 (bj s y)] w1 fun e w'=>e=.returned (.bool true)/\w'=w1):=hel;have HE:Hid (ap s a 7=(y,0)):=F8 y3 HY.out.2.2 hc;have HTl:Hid (Ra 83 #[.pointer (some ⟨g,0,none⟩),.int .u8 7] w1 fun e w'=>e=.returned (.int .i64 0)/\Rs w0 w' g s y a 0 (l++[tv s (cQ s 7 a y f)])):=dg HY.out.1 7 hs (R4 y2) y3 hl (fun _=>⟨y2,hbl⟩);clear hel e1 hc hfl
   go_wp2_with (first|(go_at_call 86;refine HEl.out.mono ?_;rintro e w2 ⟨rfl,hw⟩;replace hw:=hw.symm;subst hw)|(go_at_call 83;refine HTl.out.mono ?_;rintro e w6 ⟨rfl,hr6⟩))
   simp only [Exit.jump]
   go_ret
   rw [HE.out];exact ⟨rfl,TP.ok HE.out hr6⟩
  ·obtain ⟨d1,d2⟩:y<s.size/\ay s y≠10:=⟨by omega,fun h=>hc (.inr h)⟩
   have e1:(decide (bj s y=10) || decide (bj s y=-1))=false:=by
    rw [Tq,Sj,Sj];exact ⟨fun h=>d2 ((bL s y 10 (by decide) d1).1 h),fun h=>by have:=(dv s y).1 h;omega⟩
   rw [e1] at hel;have HEl:Hid (Ra 86 #[.int .i32 (bj s y)] w1 fun e w'=>e=.returned (.bool false)/\w'=w1):=hel;have HF2:Hid (Ra 85 #[.pointer (some ⟨g,0,none⟩)] w1 fun e w'=>e=.returned (.bool (decide (65535<y+fj s y-a)))/\Rs w0 w' g s y a f l):=hfl;rw [cg d1] at HF2;clear hc hfl e1 hel
   by_cases hf:65535<y+dw s y-a
   ·have HE:Hid (ap s a 7=(a,103)):=wA m d1 (fun _=>d2) (R4 y2) yb hf HY.out.2.2;rw [Q9 hf] at HF2;clear hf
    go_wp2_with (first|(go_at_call 86;refine HEl.out.mono ?_;rintro e w2 ⟨rfl,hw⟩;replace hw:=hw.symm;subst hw)|(go_at_call 85;refine HF2.out.mono ?_;rintro e w3 ⟨rfl,hr3⟩;have z3:=HC.out _ _ hr3))
    simp only [Exit.jump]
    go_ret
    rw [HE.out];exact ⟨rfl,TP.bad HE.out (by decide) HY.out.2.1 (R4 y2) hr3 (by intro h;cases h)⟩
   ·have HO:Hid (y+dw s y-a<=65535):=by show _<=_;omega
    rw [Rf hf] at HF2;clear hf
    go_wp2_with (first|(go_at_call 86;refine HEl.out.mono ?_;rintro e w2 ⟨rfl,hw⟩;replace hw:=hw.symm;subst hw)|(go_at_call 85;refine HF2.out.mono ?_;rintro e w3 ⟨rfl,hr3⟩;have z3:=HC.out _ _ hr3))
    go_step3
    refine ⟨rfl,?_⟩
    try refine ⟨?_,by rw [HX.out.1,hr3.at];have:=HX.out.2;omega⟩
    exact ⟨y,_,_,_,_,_,_,_,_,_,_,_,_,_,_,_,_,_,_,_,_,_,_,_,_,_,_,_,_,_,_,_,_,_,_,_,_,_,_,_,_,_,⟨R4 y2,d1,HY.out.2.1,hr3,fun _=>d2,fun h=>(by cases h),HO.out,m,HY.out.2.2⟩,rfl⟩)
end Go.Proofs.YtnljjdhodelhdaaGreatDoor.Lx
