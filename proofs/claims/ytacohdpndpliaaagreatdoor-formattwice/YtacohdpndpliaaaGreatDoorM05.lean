import Derived.Deep.Cut
import Derived.Deep.CutRange
import Derived.Test.YtacohdpndpliaaaGreatDoorM04
set_option linter.all false
set_option maxHeartbeats 4000000
namespace Go.Proofs.YtacohdpndpliaaaGreatDoor.Lx
open Go.Proofs.Tryz
open Go.RowKit
variable {s:ByteArray}{a y m g f k q b x:Nat}{w0 W w':World}{l:List Tv}{o:Bool}{p n:Int}
def TP (w0 w':World) (g:Nat) (s:ByteArray) (k a f:Nat) (l:List Tv):Prop:=
 if (ap s a k).2=0 then Rs w0 w' g s (ap s a k).1 a 0 (l++[tv s (cy s k a (ap s a k).1 f)])
 else ∃a',bd s a'/\a<=a'/\Rs w0 w' g s a' a f l/\((ap s a k).2=102->a'=(ap s a k).1)
theorem TP.ok (hE:ap s a k=(y,0)) (h:Rs w0 w' g s y a 0 (l++[tv s (cy s k a y f)])):TP w0 w' g s k a f l:=by
 unfold TP;rw [hE,IO rfl];exact h
theorem TP.bad {e a':Nat}(hE:ap s a k=(y,e)) (he:e≠0) (hb:bd s a') (ha:a<=a') (h:Rs w0 w' g s a' a f l) (h2:e=102->a'=y):TP w0 w' g s k a f l:=by
 unfold TP;rw [hE,Eq he];exact ⟨a',hb,ha,h,h2⟩
def fX (w:World) (g k:Nat):Nat:=match w.cell? ⟨g,k,none⟩ with
 |some (.int _ n)=>n.toNat
 |_=>0
theorem FY {w:World}{n:Nat}(h:w.cell? ⟨g,k,none⟩=some (.int .i64 (n:Nat))):fX w g k=n:=by
 unfold fX;rw [h];simp
theorem Rs.at (h:Rs w0 W g s a b f l):fX W g 1=a:=by
 obtain ⟨h1,h2,v,h3,h4⟩:=h;exact FY (Rq.cells h3).2.1
theorem E7 (s:ByteArray) (y:Nat) (h:gd s y=false):dp s y=65533:=by unfold dp;rw [MB s y h]
theorem L7:ij (-1)=false:=by decide
theorem L8:ij 65533=false:=by decide
theorem Mn:fC 65533=false:=by decide
theorem zm (s:ByteArray) (y:Nat):ij (aV s y)=(decide (y<s.size) && (gd s y && ij (dp s y))):=by
 by_cases h:y<s.size
 ·rw [gC h,QF h,RC];cases e:gd s y with
  |true=>rfl
  |false=>rw [E7 s y e];exact L8
 ·rw [kv (by omega),QH h,L7];rfl
theorem eh (s:ByteArray) (y:Nat) (h:y<s.size):fC (aV s y)=(gd s y && fC (dp s y)):=by
 rw [gC h];cases e:gd s y with
 |true=>rfl
 |false=>rw [E7 s y e];exact Mn
theorem dM (s:ByteArray) (y:Nat):(decide (48<=aV s y) && decide (aV s y<=57))=(decide (y<s.size) && cO (ay s y)):=by
 by_cases h:y<s.size
 ·rw [gC h,QF h,RC];unfold cO;rw [R9];simp only [Qx,QP];constructor
  ·rintro ⟨h1,h2⟩;have:=FK s y (by omega);omega
  ·rintro ⟨h1,h2⟩;have:=(bj s y (by omega)).2.1;omega
 ·rw [kv (by omega),QH h];rfl
theorem bw (s:ByteArray) (y c:Nat) (hc:c<128) (h:y<s.size):aV s y=(c:Int)↔ay s y=c:=by
 rw [gC h];constructor
 ·intro e;exact (KU s y c hc).1 (by omega)
 ·intro e;have:=(KU s y c hc).2 e;omega
theorem ci (s:ByteArray) (y:Nat):aV s y=-1↔s.size<=y:=by
 by_cases h:y<s.size
 ·rw [gC h];constructor <;> intro _ <;> omega
 ·rw [kv (by omega)];constructor <;> intro _ <;> first|omega|rfl
theorem x8 (s:ByteArray) (y:Nat) (h:y<s.size):(decide (aV s y<32) || decide (aV s y=127))=fh s y:=by
 rw [gC h];unfold fh;cases e:gd s y with
 |true=>grind
 |false=>rw [E7 s y e];rfl
theorem OA (s:ByteArray) (y:Nat) (h:y<s.size):qx (aV s y)=cY (ay s y):=by
 unfold qx cY;rw [R9];simp only [QJ,QP,RD];have e1:=bw s y 32 (by decide) h;have e2:=bw s y 9 (by decide) h;have e3:=bw s y 13 (by decide) h;constructor
 ·grind
 ·grind
theorem LS {E:Nat × Nat}(hx:x<s.size) (h:run (cd s a k) s.size x m=E) (hon:cd s a k x m=.on (dw s x)):x+dw s x<=s.size/\run (cd s a k) s.size (x+dw s x) (m+1)=E:=by
 refine ⟨(aX s x hx).2.2,?_⟩;rw [<-fy (df s a k) (by omega) hon];exact h
theorem oS {E:Nat × Nat}(hy:y<=s.size) (h:run (cd s a k) s.size y m=E) (hc:s.size<=y\/(k=1/\(gd s y && ij (dp s y))=false)\/(k=3/\cO (ay s y)=false)):E=(y,0):=by
 rw [<-h];refine cq hy ?_;unfold cd
 by_cases h1:s.size<=y
 ·rw [IO h1]
 ·rw [Eq h1,IO (hc.resolve_left h1)]
theorem oV {E:Nat × Nat}(hy:y<s.size) (h:run (cd s a k) s.size y m=E) (hc:¬((k=1/\(gd s y && ij (dp s y))=false)\/(k=3/\cO (ay s y)=false))) (hf:65535<y+dw s y-a):E=(a,103):=by
 rw [<-h];refine cq (by omega) ?_;unfold cd;rw [Eq (by omega),Eq hc,IO hf]
theorem oU (hy:y<s.size) (hc:¬((k=1/\(gd s y && ij (dp s y))=false)\/(k=3/\cO (ay s y)=false))) (hf:¬65535<y+dw s y-a):cd s a k y m=.on (dw s y):=by
 unfold cd;rw [Eq (by omega),Eq hc,Eq hf]
theorem kC {E:Nat × Nat}(hy:y<=s.size) (h:run (cu s a q o) s.size y m=E) (hc:s.size<=y\/ay s y=10):E=(a,101):=by
 rw [<-h];refine cq hy ?_;unfold cu;rw [IO hc]
theorem uL {E:Nat × Nat}(hy:y<s.size) (h:run (cu s a q o) s.size y m=E) (hc:ay s y≠10) (hf:65535<y+dw s y-a):E=(a,103):=by
 rw [<-h];refine cq (by omega) ?_;unfold cu;rw [Eq (by rintro (h|h);omega;exact hc h),IO hf]
theorem so {E:Nat × Nat}(hy:y<s.size) (h:run (cu s a q o) s.size y m=E) (hc:ay s y≠10) (hf:¬65535<y+dw s y-a) (hq:ay s y=q/\(o=false\/m=1)):E=(y+1,0):=by
 rw [<-h];refine cq (by omega) ?_;unfold cu;rw [Eq (by rintro (h|h);omega;exact hc h),Eq hf,IO hq]
theorem gK {E:Nat × Nat}(hy:y<s.size) (h:run (cu s a q o) s.size y m=E) (hc:ay s y≠10) (hf:¬65535<y+dw s y-a) (hq:¬(ay s y=q/\(o=false\/m=1))) (hb:fh s y=true\/(o=true/\(m=1\/ay s y=q))):E=(y,102):=by
 rw [<-h];refine cq (by omega) ?_;unfold cu;rw [Eq (by rintro (h|h);omega;exact hc h),Eq hf,Eq hq,IO hb]
theorem pb {E:Nat × Nat}(hy:y<s.size) (h:run (cu s a q o) s.size y m=E) (hc:ay s y≠10) (hf:¬65535<y+dw s y-a) (hq:¬(ay s y=q/\(o=false\/m=1))) (hb:¬(fh s y=true\/(o=true/\(m=1\/ay s y=q)))):run (cu s a q o) s.size (y+dw s y) (m+1)=E:=by
 rw [<-h];refine (fy (eZ s a q o) (by omega) ?_).symm;unfold cu;rw [Eq (by rintro (h|h);omega;exact hc h),Eq hf,Eq hq,Eq hb]
theorem J1 (m:Nat) (hy:y<s.size) (h10:o=false->ay s y≠10) (h125:o=true->ay s y≠125) (hf:y+1-a<=65535):run (bC s a o) s.size y m=run (bC s a o) s.size (y+1) (m+1):=by
 refine fy (dg s a o) (by omega) ?_;unfold bC;rw [Eq (by omega),Eq (by rintro ⟨h1,h2⟩;exact h10 h1 h2),Eq (by omega),Eq (by rintro ⟨h1,h2⟩;exact h125 h1 h2)]
theorem tI :∀(i m:Nat),(∀j,j<i->y+j<s.size/\(o=false->ay s (y+j)≠10)/\(o=true->ay s (y+j)≠125)/\y+j+1-a<=65535)->run (bC s a o) s.size y m=run (bC s a o) s.size (y+i) (m+i)
 |0,m,_=>rfl
 |i+1,m,h=>by
  rw [tI i m (fun j hj=>h j (by omega))];obtain ⟨h1,h2,h3,h4⟩:=h i (by omega);exact J1 (m+i) h1 h2 h3 h4
theorem ye (s:ByteArray) (y j:Nat) (hy:y<s.size) (hj:j<dw s y):y+j<s.size/\(j≠0->ay s (y+j)≠10/\ay s (y+j)≠125):=by
 have:=(aX s y hy).2.2;refine ⟨by omega,fun h=>?_⟩;have:=(jx s y j (by omega) hj).2;omega
theorem MW {E:Nat × Nat}(m:Nat) (hy:y<s.size) (h10:o=false->ay s y≠10) (h125:o=true->ay s y≠125) (hf:y+dw s y-a<=65535) (h:run (bC s a o) s.size y m=E):run (bC s a o) s.size (y+dw s y) (m+dw s y)=E:=by
 rw [<-h];refine (tI (dw s y) m (fun j hj=>?_)).symm;obtain ⟨h1,h2⟩:=ye s y j hy hj;refine ⟨h1,fun ho=>?_,fun ho=>?_,by omega⟩
 ·grind
 ·grind
theorem qg {E:Nat × Nat}(m:Nat) (hy:y<s.size) (h10:o=false->ay s y≠10) (hay:a<=y) (hb:y-a<=65535) (hf:65535<y+dw s y-a) (h:run (bC s a o) s.size y m=E):E=(a,103):=by
 obtain ⟨i,hi⟩:∃i,y+i=a+65535:=⟨a+65535-y,by omega⟩;have ai:i<dw s y:=by omega
 obtain ⟨d1,d2,d3⟩:=aX s y hy
 have last:∀z m,z<s.size->(o=false->ay s z≠10)->65535<z+1-a->run (bC s a o) s.size z m=(a,103):=by
  intro z m hz h1 h2;refine cq (by omega) ?_;unfold bC;rw [Eq (by omega),Eq (by rintro ⟨e1,e2⟩;exact h1 e1 e2),IO h2]
 by_cases h0:i=0
 ·rw [<-h];exact last y m hy h10 (by omega)
 ·by_cases c:o=true/\ay s y=125
  ·exfalso
   have:=(bj s y (by omega)).1;omega
  ·rw [<-h,tI i m (fun j hj=>?_)]
   ·have h2:=ye s y i hy ai;exact last (y+i) _ h2.1 (fun _=>(h2.2 h0).1) (by omega)
   ·obtain ⟨h1,h2⟩:=ye s y j hy (by omega);refine ⟨h1,fun ho=>?_,fun ho=>?_,by omega⟩
    ·by_cases e:j=0
     ·subst e;exact h10 ho
     ·exact (h2 e).1
    ·by_cases e:j=0
     ·subst e;exact fun e2=>c ⟨ho,e2⟩
     ·exact (h2 e).2
theorem wu {E:Nat × Nat}(hy:y<=s.size) (h:run (bC s a false) s.size y m=E) (hc:s.size<=y\/ay s y=10):E=(y,0):=by
 rw [<-h];refine cq hy ?_;unfold bC
 by_cases h1:s.size<=y
 ·rw [IO h1];rfl
 ·rw [Eq h1,IO ⟨rfl,hc.resolve_left h1⟩]
theorem FV {E:Nat × Nat}(hy:y<=s.size) (h:run (bC s a true) s.size y m=E) (hc:s.size<=y):E=(a,101):=by
 rw [<-h];refine cq hy ?_;unfold bC;rw [IO hc];rfl
theorem Ci {E:Nat × Nat}(hy:y<s.size) (h:run (bC s a true) s.size y m=E) (hc:ay s y=125) (hf:y+1-a<=65535):E=(y+1,0):=by
 rw [<-h];refine cq (by omega) ?_;unfold bC;rw [Eq (by omega),Eq (by rintro ⟨e1,e2⟩;cases e1),Eq (by omega),IO ⟨rfl,hc⟩]
theorem Rq.told {v v':Value}(h1:Below w0.heap.size w0 W) (h2:w0.heap.size<=g) (h3:RB W g s a p n b f v) (h4:Rt w0.heap.size W v' l) :
  Rq w0 ((W.setCell ⟨g,8,none⟩ v').setCell ⟨g,7,none⟩ (.int .i64 0)) g s a p n b 0 l:=by
 have hne:=h4.ne h3 (by decide);refine ⟨(h1.setCell (p:=⟨g,8,none⟩) h2 _).setCell (p:=⟨g,7,none⟩) h2 _,h2,v',?_,?_⟩
 ·exact aj (aj h3 8 _) 7 _
 ·exact (h4.kp (Kp.set _ g 8 _) hne).kp (Kp.set _ g 7 _) hne
theorem Dm {ops:Array Oper}{o:Oper}{a:Act}{K:Act->World->Prop}{Q:Exit->Act->World->Prop}{E:Prop}(hgd:o.guard=none) (s x:Operand)
  (ho:o.op=.call { callee:=.builtin .append,args:=#[s,x],argTypes:=#[48,48] }) (B:Nat) (v:Value) (l:List Tv) (d:Tv) (hs:a.eval s=v) (hr:Rt B W v l)
  (g c:Nat) (hx:a.eval x=.slice (some ⟨g,0,none⟩) 1 c) (hg:W.heap[g]?=some (.cells #[.int .u8 d.k,.string d.t,.int .i64 d.a,.int .i64 d.l,.int .i64 d.c,.int .i64 d.f] 53 (0,0))) (hl:l.length<=1000000000) (hB:B<=W.heap.size)
  (h:∀q cap w',Rt B w' (.slice (some ⟨q,0,none⟩) (l.length+1) cap) (l++[d])->Below B W w'->W.grownBy w' v.ownBlock->K (a.put o.dst (.slice (some ⟨q,0,none⟩) (l.length+1) cap)) w') :
  if Region.wanted o (yielded ops a.tmps)=true then Oper.wp Tryz.prog o a W K Q else E:=by
 obtain ⟨i0,hi,hz0,hz1,hz2⟩:=RQ Tryz.info53;refine To W hgd s x 48 ho B 53 i0 _ 6 56 underlying48 hi hz0 hz1 hz2 rfl (by decide) v _ _ hs hr ⟨g,0,none⟩ 1 c (GK [d]) hx (by rw [Hf];rfl) ?_ (He [d]) (by omega) (by unfold maxLen;omega) (by omega) hB _ rfl ?_
 ·intro j u hu;refine RE hg j u ?_;have e:GK [d]=[.int .u8 d.k,.string d.t,.int .i64 d.a,.int .i64 d.l,.int .i64 d.c,.int .i64 d.f]:=by simp [GK,bA,Tv.cs]
  rw [e] at hu
  simpa using hu
 ·intro q cap w' a1 a2 a3 _;refine h q cap w' ?_ ((hH B W).grown a2 hB hr.own) a2;unfold Rt;rw [Or,Hh];exact a1
set_option maxRecDepth 100000 in
theorem AL (h:Rq w0 W g s a p n b f l) (k:Nat) (T:ByteArray) (hT:(if k=7 then s.extract b (aZ s a) else s.extract b a)=T) (h7:k=7->b<a/\cY (ay s b)=false) (hs:s.size<=2147483647) (hba:b<=a) (ha:a<=s.size) (hl:l.length<=1000000000) :
  Qu 172 #[.pointer (some ⟨g,0,none⟩),.int .u8 k] W fun e w'=>e=.returned (.int .i64 0)/\Rq w0 w' g s a p n b 0 (l++[⟨k,T,b,pL s b,pC s b,f⟩]):=by
 obtain ⟨h1,h2,v,h3,h4⟩:=h
 have hTz:T.size<=2147483647:=by
  rw [<-hT];have:=fO s a
  split
  ·rw [az s b _ (by omega)];omega
  ·rw [az s b a ha];omega
 obtain ⟨U,hU⟩:∃U,s.extract b a=U:=⟨_,rfl⟩
 have HTr:Hid (k=7->∀V,Qu 252 #[.string U,.string ⟨#[32,9,13]⟩] V fun e w'=>e=.returned (.string T)/\Qv V w'):=fun hk V=>by
  have h8:=C3 U V (by rw [<-hU,az s b a ha];omega);rw [IO hk] at hT;rw [<-hU,G7 s b a (h7 hk).1 ha (h7 hk).2,hT] at h8;rw [<-hU];exact h8
 have HTn:Hid (k≠7->U=T):=fun hk=>by rw [Eq hk] at hT;rw [<-hU];exact hT
 have HB:Hid (Qu 179 #[.pointer (some ⟨g,0,none⟩)] W fun e w'=>e=.returned (.string U)/\∃m,w'=W.drewN m):=by rw [<-hU];exact jz h3 hs hba ha
 have HC:Hid (∀V,Qu 253 #[.string T] V fun e w'=>e=.returned (.string T)/\Qv V w'):=fun V=>Co T V hTz
 have HK:Hid (∀V,Qv W V->Qv w0 V/\RB V g s a p n b f v/\Rt w0.heap.size V v l):=fun V hb=>⟨h1.trans (hb.mono h1.size),ag h3 hb,h4.below hb⟩
 obtain ⟨vp,vc,rfl,hv1,hv2⟩:=h4.shape;clear h1 h3 h4 hT h7 hU
 go_enter func172,ntmps172
 go_upto_if 9 with (first|(go_at_call 179;refine HB.out.mono ?_;rintro e w1 ⟨rfl,m,hw⟩;have hb0:=dV W m;rw [<-hw] at hb0;clear hw))
 go_cut [5] from 9 (fun t wx=>t=.string T/\Hid (Below W.heap.size W wx))
 case first=>
  by_cases hk:k=7
  ·have q1:((k:Int) == 7)=true:=by simp;omega
   have HKk:Hid (k=7):=hk;clear hk
   go_wp2_with (first|(go_at_call 252;refine (HTr.out HKk.out _).mono ?_;rintro e w2 ⟨rfl,hb2⟩))
   go_meet
   exact ⟨rfl,hb0.trans (hb2.mono hb0.size)⟩
  ·have q1:((k:Int) == 7)=false:=by simp;omega
   have HKk:Hid (k≠7):=hk;clear hk
   go_wp2_with fail
   go_meet
   exact ⟨by rw [HTn.out HKk.out],hb0⟩
 case rest=>
  obtain ⟨rfl,HW⟩:=hcut;have hb0:=HW.out
  go_wp2_with fail
  have HK1:Hid (∀V,Qv wc V->Qv w0 V/\RB V g s a p n b f (.slice vp l.length vc)/\Rt w0.heap.size V (.slice vp l.length vc) l):=fun V hb=>HK.out V (hb0.trans (hb.mono hb0.size))
  obtain ⟨_,k3,_⟩:=HK1.out _ (hH _ _);obtain ⟨c0,c1,c2,c3,c4,c5,c6,c7,c8⟩:=Rq.cells k3;have hlt:=aq k3;clear HK HB hb0 k3 c0 c1 c2 c3
  have HA:Hid (∀V q cap w',Qv wc V->Rt w0.heap.size w' (.slice (some ⟨q,0,none⟩) (l.length+1) cap) (l++[⟨k,T,b,pL s b,pC s b,f⟩])->Below w0.heap.size V w'->V.grownBy w' (Value.slice vp l.length vc).ownBlock->RB w' g s a p n b f (.slice vp l.length vc)/\Qv w0 w'):=fun V q cap w' hV hr hb hg=>by
   obtain ⟨x1,x3,x4⟩:=HK1.out _ hV;exact ⟨(Kp.of_grown hg).blk x3 (fun e=>x4.ne x3 (by decide) _ e.symm rfl),x1.trans hb⟩
  go_region_law (first|(go_simp;go_at_call 253;refine (HC.out _).mono ?_;rintro e w2 ⟨rfl,hb2⟩;have hbW:Below wc.heap.size wc w2:=(hH wc.heap.size wc).drew.trans (hb2.mono (gt _));obtain ⟨y1,y3,yr⟩:=HK1.out _ hbW;obtain ⟨_,_,_,_,y4,y5,y6,y7,y8⟩:=Rq.cells y3;have hlt2:=aq y3;have hs0:=y1.size)|(refine Dm (by rfl) _ _ (by rfl) w0.heap.size (.slice vp l.length vc) l ⟨k,T,b,pL s b,pC s b,f⟩ (by rfl) (yr.below ((hH _ _).alloc (gt _) _)) w2.heap.size 1 (by rfl) (au _ _) hl (by rw [Qy];exact Nat.le_succ_of_le hs0) ?_;intro q cap w3 hr3 hb3 hg3;obtain ⟨z3,z1⟩:=HA.out _ _ _ _ (hbW.alloc hbW.size _) hr3 hb3 hg3;have HF:Hid (Rq w0 ((w3.setCell ⟨g,8,none⟩ (.slice (some ⟨q,0,none⟩) (l.length+1) cap)).setCell ⟨g,7,none⟩ (.int .i64 0)) g s a p n b 0 (l++[⟨k,T,b,pL s b,pC s b,f⟩])):=Rq.told z1 h2 z3 hr3;have zf:=z3.frozen 8;have zc:w3.cell? ⟨g,8,none⟩=some (.slice vp l.length vc):=af z3 rfl;have zg:=z3.frozen 7;have zd:w3.cell? ⟨g,7,none⟩=some (.int .i64 f):=af z3 rfl;clear hr3 hb3 hg3 z3 z1 y1 y3 yr))
  all_goals (
   go_wp2_with fail
   go_ret
   exact ⟨rfl,HF.out⟩)
theorem cz (h:Rs w0 W g s y a f l) (k:Nat) (hs:s.size<=2147483647) (hay:a<=y) (hy:y<=s.size) (hl:l.length<=1000000000) (h7:k=7->a<y/\cY (ay s a)=false) :
  Qu 172 #[.pointer (some ⟨g,0,none⟩),.int .u8 k] W fun e w'=>e=.returned (.int .i64 0)/\Rs w0 w' g s y a 0 (l++[tv s ⟨k,a,if k=7 then aZ s y else y,f⟩]):=by
 refine (AL h k _ rfl h7 hs hay hy hl).mono ?_;rintro e w' ⟨rfl,hr⟩;refine ⟨rfl,?_⟩
 have e:tv s ⟨k,a,if k=7 then aZ s y else y,f⟩=⟨k,if k=7 then s.extract a (aZ s y) else s.extract a y,a,pL s a,pC s a,f⟩:=by
  unfold tv
  by_cases e:k=7
  ·simp only [IO e]
  ·simp only [Eq e]
 rw [e];exact hr
theorem OF (h:ak s a=3):cO (ay s a)=true:=by
 unfold ak at h
 repeat' split at h
 all_goals first|assumption|(cases h;done)
theorem OG (h:ak s a=1):(gd s a && fC (dp s a))=true:=by
 unfold ak at h
 repeat' split at h
 all_goals first|assumption|(cases h;done)
theorem OE (h:ak s a=4):ay s a=34:=by
 unfold ak at h
 repeat' split at h
 all_goals first|assumption|(cases h;done)
theorem OD (h:ak s a=5):ay s a=39:=by
 unfold ak at h
 repeat' split at h
 all_goals first|assumption|(cases h;done)
theorem M8 (h:ak s a=7):ay s a=47/\a+1<s.size/\ay s (a+1)=47:=by
 unfold ak at h
 repeat' split at h
 all_goals first|assumption|(cases h;done)
theorem OC (h:ak s a=8):ay s a=123:=by
 unfold ak at h
 repeat' split at h
 all_goals first|assumption|(cases h;done)
theorem MT {c:Nat}(h:cO c=true):48<=c/\c<=57:=by
 unfold cO at h
 simpa using h
structure JN (w0 W:World) (g:Nat) (s:ByteArray) (k a f:Nat) (l:List Tv) (x:Nat):Prop where
 ax:a<=x
 xs:x<s.size
 bx:bd s x
 rs:Rs w0 W g s x a f l
 on:∃m,run (cd s a k) s.size x m=ap s a k/\cd s a k x m=.on (dw s x)
theorem JN.next {W':World}(h:JN w0 W g s k a f l x) (hr:Rs w0 W' g s (x+eI s x) a f l) :
  ∃y,x<y/\a<=y/\y<=s.size/\bd s y/\Rs w0 W' g s y a f l/\∃m,run (cd s a k) s.size y m=ap s a k:=by
 obtain ⟨h1,h2,h3,h4,m,h5,h6⟩:=h;obtain ⟨e1,e2⟩:=LS h2 h5 h6;have d:=(aX s x h2).1;rw [bQ h2] at hr;exact ⟨x+dw s x,by omega,by omega,e1,jB h3 h2,hr,m+1,e2⟩
theorem IR (h:Rs w0 W g s a a f l) (hs:s.size<=2147483647) (ha:a<s.size) (hb:bd s a) (hk:ak s a=3) (hl:l.length<=1000000000) :
  Qu 89 #[.pointer (some ⟨g,0,none⟩)] W fun e w'=>e=.returned (.int .i64 ((ap s a 3).2:Nat))/\TP w0 w' g s 3 a f l:=by
 have hd:=OF hk;have hd2:=MT hd;have hE:ap s a 3=run (cd s a 3) s.size a 0:=by unfold ap;simp
 have hw:=(bj s a (by omega)).1;have hJ0:JN w0 W g s 3 a f l a:=⟨gt _,ha,hb,h,0,hE.symm,oU ha (by rintro (⟨h,_⟩|⟨_,h⟩);cases h;rw [hd] at h;cases h) (by omega)⟩
 have HT:Hid (∀V x,JN w0 V g s 3 a f l x->Qu 169 #[.pointer (some ⟨g,0,none⟩)] V fun e w'=>e=.returned (.tuple #[])/\∃y,x<y/\a<=y/\y<=s.size/\bd s y/\Rs w0 w' g s y a f l/\∃m,run (cd s a 3) s.size y m=ap s a 3):=fun V x hx=>by
  refine (cj hx.rs hs (Ri hx.xs)).mono ?_;rintro e w' ⟨rfl,hr⟩;exact ⟨rfl,hx.next hr⟩
 have HD:Hid (∀p V,Qu 88 #[.int .i32 p] V fun e w'=>e=.returned (.bool (decide (48<=p) && decide (p<=57)))/\w'=V):=bP
 have HP:Hid (∀V y,Rs w0 V g s y a f l->a<=y->y<=s.size->(Qu 172 #[.pointer (some ⟨g,0,none⟩),.int .u8 3] V fun e w'=>e=.returned (.int .i64 0)/\Rs w0 w' g s y a 0 (l++[tv s (cy s 3 a y f)]))/\(Qu 174 #[.pointer (some ⟨g,0,none⟩)] V fun e w'=>e=.returned (.bool (decide (65535<y+eI s y-a)))/\Rs w0 w' g s y a f l)):=fun V y hr h1 h2=>by
  constructor
  ·exact cz hr 3 hs h1 h2 hl (by intro h;cases h)
  ·obtain ⟨h1',h2',v,h3,h4⟩:=hr;refine (fU h3 hs h1 h2 (by by_cases e:y<s.size;rw [bQ e];exact (aX s y e).2.1;rw [gm (by omega)];omega)).mono ?_;rintro e w' ⟨rfl,hb⟩;exact ⟨rfl,Rq.below ⟨h1',h2',v,h3,h4⟩ hb⟩
 have HC:Hid (∀V y,Rs w0 V g s y a f l->V.cell? ⟨g,2,none⟩=some (.int .i32 (aV s y))):=fun V y hr=>by
  obtain ⟨h1',h2',v,h3,h4⟩:=hr;exact (Rq.cells h3).2.2.1
 have c2:=HC.out _ _ h;have q0:(decide (48<=aV s a) && decide (aV s a<=57))=true:=by rw [dM,QF ha,hd];rfl
 have HJ0:Hid (JN w0 W g s 3 a f l a):=hJ0;have HD0:Hid (Qu 88 #[.int .i32 (aV s a)] W fun e w'=>e=.returned (.bool true)/\w'=W):=by rw [<-q0];exact bP _ _
 clear hd hd2 hE hw hJ0 h hk q0
 go_enter func89,ntmps89
 go_wp2_with fail
 refine SX 0 (fun a' w'=>∃(x:Nat) (u1 u2 u3 u4 u5 u6 u7 u8 u9 u10 u11 u12 u13 u14 u15 u16 u17 u18 u19 u20 u21 u22 u23 u24 u25 u26 u27 u28 u29 u30 u31 u32 u33 u34 u35 u36 u37 u38:Value),Hid (JN w0 w' g s 3 a f l x)/\a'={ tmps:=#[.pointer (some ⟨g,0,none⟩),u1,u2,u3,u4,u5,u6,u7,u8,u9,u10,u11,u12,u13,u14,u15,u16,u17,u18,u19,u20,u21,u22,u23,u24,u25,u26,u27,u28,u29,u30,u31,u32,u33,u34,u35,u36,u37,u38],defers:=[] }) (fun _ w'=>s.size-fX w' g 1) rfl ?_ ?_
 ·go_wp2_with (first|(go_at_call 88;refine HD0.out.mono ?_;rintro e w1 ⟨rfl,hw⟩;replace hw:=hw.symm;subst hw))
  go_step3
  exact ⟨rfl,a,_,_,_,_,_,_,_,_,_,_,_,_,_,_,_,_,_,_,_,_,_,_,_,_,_,_,_,_,_,_,_,_,_,_,_,_,_,_,HJ0,rfl⟩
 ·rintro a' w' ⟨x,u1,u2,u3,u4,u5,u6,u7,u8,u9,u10,u11,u12,u13,u14,u15,u16,u17,u18,u19,u20,u21,u22,u23,u24,u25,u26,u27,u28,u29,u30,u31,u32,u33,u34,u35,u36,u37,u38,HJ,rfl⟩;have HX:Hid (fX w' g 1=x/\x<s.size):=⟨HJ.out.rs.at,HJ.out.xs⟩
  go_wp2_with fail
  refine (HT.out _ _ HJ.out).mono ?_;rintro e w1 ⟨rfl,y,y1,y2,y3,y4,y5,m,y6⟩;have z2:=HC.out _ _ y5;obtain ⟨t1,t2⟩:=HP.out _ _ y5 y2 y3;have HY:Hid (Rs w0 w1 g s y a f l/\bd s y/\run (cd s a 3) s.size y m=ap s a 3):=⟨y5,y4,y6⟩;clear HJ y5 y4 y6 c2
  by_cases hc:(decide (48<=aV s y) && decide (aV s y<=57))=true
  ·have HDy:Hid (Qu 88 #[.int .i32 (aV s y)] w1 fun e w'=>e=.returned (.bool true)/\w'=w1):=by rw [<-hc];exact bP _ _
   have hc2:=hc;rw [dM,Qx,QP] at hc2;obtain ⟨d1,d2⟩:=hc2
   have HN:Hid (¬((3=1/\(gd s y && ij (dp s y))=false)\/((3:Nat)=3/\cO (ay s y)=false))):=by
    show ¬_
    rintro (⟨h,_⟩|⟨_,h⟩)
    ·cases h
    ·rw [d2] at h;cases h
   have HF2:Hid (Qu 174 #[.pointer (some ⟨g,0,none⟩)] w1 fun e w'=>e=.returned (.bool (decide (65535<y+eI s y-a)))/\Rs w0 w' g s y a f l):=t2;rw [bQ d1] at HF2;clear hc t1 t2
   by_cases hf:65535<y+dw s y-a
   ·have HE:Hid (ap s a 3=(a,103)):=oV d1 HY.out.2.2 HN.out hf;rw [QF hf] at HF2;clear hf
    go_wp2_with (first|(go_at_call 88;refine HDy.out.mono ?_;rintro e w2 ⟨rfl,hw⟩;replace hw:=hw.symm;subst hw)|(go_at_call 174;refine HF2.out.mono ?_;rintro e w3 ⟨rfl,hr3⟩))
    simp only [Exit.jump]
    go_ret
    rw [HE.out];exact ⟨rfl,TP.bad HE.out (by decide) HY.out.2.1 y2 hr3 (by intro h;cases h)⟩
   ·have HO:Hid (cd s a 3 y m=.on (dw s y)):=oU d1 HN.out hf;rw [QH hf] at HF2;clear hf
    go_wp2_with (first|(go_at_call 88;refine HDy.out.mono ?_;rintro e w2 ⟨rfl,hw⟩;replace hw:=hw.symm;subst hw)|(go_at_call 174;refine HF2.out.mono ?_;rintro e w3 ⟨rfl,hr3⟩))
    go_step3
    refine ⟨rfl,⟨y,_,_,_,_,_,_,_,_,_,_,_,_,_,_,_,_,_,_,_,_,_,_,_,_,_,_,_,_,_,_,_,_,_,_,_,_,_,_,⟨y2,d1,HY.out.2.1,hr3,m,HY.out.2.2,HO.out⟩,rfl⟩,?_⟩;rw [HX.out.1,hr3.at];have:=HX.out.2;omega
  ·have hc1:(decide (48<=aV s y) && decide (aV s y<=57))=false:=by simpa using hc
   have HDy:Hid (Qu 88 #[.int .i32 (aV s y)] w1 fun e w'=>e=.returned (.bool false)/\w'=w1):=by rw [<-hc1];exact bP _ _
   have HE:Hid (ap s a 3=(y,0)):=by
    refine oS y3 HY.out.2.2 ?_;rw [dM] at hc1
    by_cases e:y<s.size
    ·rw [QF e,RC] at hc1;exact .inr (.inr ⟨rfl,hc1⟩)
    ·exact .inl (by omega)
   have HTl:Hid (Qu 172 #[.pointer (some ⟨g,0,none⟩),.int .u8 3] w1 fun e w'=>e=.returned (.int .i64 0)/\Rs w0 w' g s y a 0 (l++[tv s (cy s 3 a y f)])):=t1;clear hc hc1 t1 t2
   go_wp2_with (first|(go_at_call 88;refine HDy.out.mono ?_;rintro e w2 ⟨rfl,hw⟩;replace hw:=hw.symm;subst hw)|(go_at_call 172;refine HTl.out.mono ?_;rintro e w3 ⟨rfl,hr3⟩))
   simp only [Exit.jump]
   go_ret
   rw [HE.out];exact ⟨rfl,TP.ok HE.out hr3⟩
theorem EC (hK:qp w0) (h:Rs w0 W g s a a f l) (hs:s.size<=2147483647) (ha:a<s.size) (hb:bd s a) (hk:ak s a=1) (hl:l.length<=1000000000) :
  Qu 89 #[.pointer (some ⟨g,0,none⟩)] W fun e w'=>e=.returned (.int .i64 ((ap s a 1).2:Nat))/\TP w0 w' g s 1 a f l:=by
 have hd:=OG hk;have hE:ap s a 1=run (cd s a 1) s.size a 0:=by unfold ap;simp
 obtain ⟨hw1,hw2,hw3⟩:=aX s a ha
 have hd3:(gd s a && ij (dp s a))=true:=by
  rw [Qx] at hd ⊢;exact ⟨hd.1,uQ hd.2⟩
 have HJ:Hid (JN w0 W g s 1 a f l a):=⟨gt _,ha,hb,h,0,hE.symm,oU ha (by rintro (⟨_,h⟩|⟨h,_⟩);rw [hd3] at h;cases h;cases h) (by omega)⟩
 have HT:Hid (∀V x,JN w0 V g s 1 a f l x->Qu 169 #[.pointer (some ⟨g,0,none⟩)] V fun e w'=>e=.returned (.tuple #[])/\∃y,x<y/\a<=y/\y<=s.size/\bd s y/\Rs w0 w' g s y a f l/\∃m,run (cd s a 1) s.size y m=ap s a 1):=fun V x hx=>by
  refine (cj hx.rs hs (Ri hx.xs)).mono ?_;rintro e w' ⟨rfl,hr⟩;exact ⟨rfl,hx.next hr⟩
 have HFl:Hid (∀V y,Rs w0 V g s y a f l->a<=y->y<=s.size->Qu 174 #[.pointer (some ⟨g,0,none⟩)] V fun e w'=>e=.returned (.bool (decide (65535<y+eI s y-a)))/\Rs w0 w' g s y a f l):=fun V y hr h1 h2=>by
  obtain ⟨h1',h2',v,h3,h4⟩:=hr;refine (fU h3 hs h1 h2 (by by_cases e:y<s.size;rw [bQ e];exact (aX s y e).2.1;rw [gm (by omega)];omega)).mono ?_;rintro e w' ⟨rfl,hb⟩;exact ⟨rfl,Rq.below ⟨h1',h2',v,h3,h4⟩ hb⟩
 have HC:Hid (∀V y,Rs w0 V g s y a f l->V.cell? ⟨g,2,none⟩=some (.int .i32 (aV s y))):=fun V y hr=>by
  obtain ⟨h1',h2',v,h3,h4⟩:=hr;exact (Rq.cells h3).2.2.1
 have c2:=HC.out _ _ h
 have hdg:(decide (48<=aV s a) && decide (aV s a<=57))=false:=by
  cases e:(decide (48<=aV s a) && decide (aV s a<=57)) with
  |false=>rfl
  |true=>
   exfalso
   rw [gC ha,Qx,QP,QP] at e;rw [Qx] at hd;have h2:=QS hd.2;unfold CK at h2;omega
 have HD0:Hid (Qu 88 #[.int .i32 (aV s a)] W fun e w'=>e=.returned (.bool false)/\w'=W):=by rw [<-hdg];exact bP _ _
 clear hd hE hw1 hw2 hw3 hd3 h hk hdg
 go_enter func89,ntmps89
 go_wp2_with fail
 refine SX 1 (fun a' w'=>∃(x:Nat) (u1 u2 u3 u4 u5 u6 u7 u8 u9 u10 u11 u12 u13 u14 u15 u16 u17 u18 u19 u20 u21 u22 u23 u24 u25 u26 u27 u28 u29 u30 u31 u32 u33 u34 u35 u36 u37 u38:Value),Hid (JN w0 w' g s 1 a f l x)/\a'={ tmps:=#[.pointer (some ⟨g,0,none⟩),u1,u2,u3,u4,u5,u6,u7,u8,u9,u10,u11,u12,u13,u14,u15,u16,u17,u18,u19,u20,u21,u22,u23,u24,u25,u26,u27,u28,u29,u30,u31,u32,u33,u34,u35,u36,u37,u38],defers:=[] }) (fun _ w'=>s.size-fX w' g 1) rfl ?_ ?_
 ·go_wp2_with (first|(go_at_call 88;refine HD0.out.mono ?_;rintro e w1 ⟨rfl,hw⟩;replace hw:=hw.symm;subst hw))
  go_step3
  clear c2
  go_wp2_with fail
  refine (HT.out _ _ HJ.out).mono ?_;rintro e w1 ⟨rfl,y,y1,y2,y3,y4,y5,m,y6⟩;have z2:=HC.out _ _ y5;have hfl:=HFl.out _ _ y5 y2 y3;have HY:Hid (Rs w0 w1 g s y a f l/\bd s y/\run (cd s a 1) s.size y m=ap s a 1):=⟨y5,y4,y6⟩;have rg:=sf s y;have hwr:IntKind.i64.wrap (aV s y)=aV s y:=by rw [Q9];omega
  have HPt:Hid (Qu 171 #[.int .i64 (aV s y)] w1 fun e w'=>e=.returned (.bool (ij (aV s y)))/\w'=w1):=uX _ _ (hK.below y5.bel).1;have hpp:=zm s y;clear HJ y5 y4 y6
  by_cases hc:ij (aV s y)=true
  ·rw [hc] at HPt;rw [hc] at hpp;obtain ⟨d1,d2⟩:y<s.size/\(gd s y && ij (dp s y))=true:=by rw [eq_comm,Qx,QP] at hpp;exact hpp
   have HN:Hid (¬(((1:Nat)=1/\(gd s y && ij (dp s y))=false)\/(1=3/\cO (ay s y)=false))):=by
    show ¬_
    rintro (⟨_,h⟩|⟨h,_⟩)
    ·rw [d2] at h;cases h
    ·cases h
   have HF2:Hid (Qu 174 #[.pointer (some ⟨g,0,none⟩)] w1 fun e w'=>e=.returned (.bool (decide (65535<y+eI s y-a)))/\Rs w0 w' g s y a f l):=hfl;rw [bQ d1] at HF2;clear hc hfl hpp d2
   by_cases hf:65535<y+dw s y-a
   ·have HE:Hid (ap s a 1=(a,103)):=oV d1 HY.out.2.2 HN.out hf;rw [QF hf] at HF2;clear hf
    go_wp2_with (first|(go_at_call 171;refine HPt.out.mono ?_;rintro e w2 ⟨rfl,hw⟩;replace hw:=hw.symm;subst hw)|(go_at_call 174;refine HF2.out.mono ?_;rintro e w3 ⟨rfl,hr3⟩))
    simp only [Exit.jump]
    go_ret
    rw [HE.out];exact ⟨rfl,TP.bad HE.out (by decide) HY.out.2.1 y2 hr3 (by intro h;cases h)⟩
   ·have HO:Hid (cd s a 1 y m=.on (dw s y)):=oU d1 HN.out hf;rw [QH hf] at HF2;clear hf
    go_wp2_with (first|(go_at_call 171;refine HPt.out.mono ?_;rintro e w2 ⟨rfl,hw⟩;replace hw:=hw.symm;subst hw)|(go_at_call 174;refine HF2.out.mono ?_;rintro e w3 ⟨rfl,hr3⟩))
    go_step3
    refine ⟨rfl,y,_,_,_,_,_,_,_,_,_,_,_,_,_,_,_,_,_,_,_,_,_,_,_,_,_,_,_,_,_,_,_,_,_,_,_,_,_,_,⟨y2,d1,HY.out.2.1,hr3,m,HY.out.2.2,HO.out⟩,rfl⟩
  ·have hc1:ij (aV s y)=false:=by simpa using hc
   rw [hc1] at HPt
   have HE:Hid (ap s a 1=(y,0)):=by
    refine oS y3 HY.out.2.2 ?_;rw [hc1] at hpp
    by_cases e:y<s.size
    ·rw [QF e,RC] at hpp;exact .inr (.inl ⟨rfl,hpp.symm⟩)
    ·exact .inl (by omega)
   have hKw:=hK.below HY.out.1.bel;obtain ⟨kd,hkd⟩:∃kd:Nat,(if ky (s.extract a y)=true then 2 else 1)=kd:=⟨_,rfl⟩
   have HWk:Hid (Qu 173 #[.pointer (some ⟨g,0,none⟩)] w1 fun e w'=>e=.returned (.int .u8 kd)/\Rs w0 w' g s y a f l):=by
    obtain ⟨h1',h2',v,h3,h4⟩:=HY.out.1;refine (kb h3 hKw hs y2 y3).mono ?_;rintro e w' ⟨rfl,hb⟩;refine ⟨?_,Rq.below ⟨h1',h2',v,h3,h4⟩ hb⟩;rw [<-hkd];split <;> rfl
   have HTl:Hid (∀V,Rs w0 V g s y a f l->Qu 172 #[.pointer (some ⟨g,0,none⟩),.int .u8 kd] V fun e w'=>e=.returned (.int .i64 0)/\Rs w0 w' g s y a 0 (l++[tv s (cy s 1 a y f)])):=fun V hV=>by
    have:=cz hV kd hs y2 y3 hl (by intro h;rw [<-hkd] at h;split at h <;> cases h);have e7:(if kd=7 then aZ s y else y)=y:=Eq (by rw [<-hkd];split <;> decide);rw [e7] at this
    have e8:cy s 1 a y f=⟨kd,a,y,f⟩:=by
     unfold cy;rw [<-hkd]
     congr 1
     by_cases e:ky (s.extract a y)=true
     ·rw [IO ⟨rfl,e⟩,IO e]
     ·rw [Eq (fun h=>e h.2),Eq e]
    rw [e8];exact this
   clear hc hc1 hfl hpp hKw hkd
   go_wp2_with (first|(go_at_call 171;refine HPt.out.mono ?_;rintro e w2 ⟨rfl,hw⟩;replace hw:=hw.symm;subst hw)|(go_at_call 173;refine HWk.out.mono ?_;rintro e w4 ⟨rfl,hr4⟩)|(go_at_call 172;refine (HTl.out _ hr4).mono ?_;rintro e w3 ⟨rfl,hr3⟩))
   simp only [Exit.jump]
   go_ret
   rw [HE.out];exact ⟨rfl,TP.ok HE.out hr3⟩
 ·rintro a' w' ⟨x,u1,u2,u3,u4,u5,u6,u7,u8,u9,u10,u11,u12,u13,u14,u15,u16,u17,u18,u19,u20,u21,u22,u23,u24,u25,u26,u27,u28,u29,u30,u31,u32,u33,u34,u35,u36,u37,u38,HJ,rfl⟩;have HX:Hid (fX w' g 1=x/\x<s.size):=⟨HJ.out.rs.at,HJ.out.xs⟩
  go_wp2_with fail
  refine (HT.out _ _ HJ.out).mono ?_;rintro e w1 ⟨rfl,y,y1,y2,y3,y4,y5,m,y6⟩;have z2:=HC.out _ _ y5;have hfl:=HFl.out _ _ y5 y2 y3;have HY:Hid (Rs w0 w1 g s y a f l/\bd s y/\run (cd s a 1) s.size y m=ap s a 1):=⟨y5,y4,y6⟩;have rg:=sf s y;have hwr:IntKind.i64.wrap (aV s y)=aV s y:=by rw [Q9];omega
  have HPt:Hid (Qu 171 #[.int .i64 (aV s y)] w1 fun e w'=>e=.returned (.bool (ij (aV s y)))/\w'=w1):=uX _ _ (hK.below y5.bel).1;have hpp:=zm s y;clear HJ y5 y4 y6
  by_cases hc:ij (aV s y)=true
  ·rw [hc] at HPt;rw [hc] at hpp;obtain ⟨d1,d2⟩:y<s.size/\(gd s y && ij (dp s y))=true:=by rw [eq_comm,Qx,QP] at hpp;exact hpp
   have HN:Hid (¬(((1:Nat)=1/\(gd s y && ij (dp s y))=false)\/(1=3/\cO (ay s y)=false))):=by
    show ¬_
    rintro (⟨_,h⟩|⟨h,_⟩)
    ·rw [d2] at h;cases h
    ·cases h
   have HF2:Hid (Qu 174 #[.pointer (some ⟨g,0,none⟩)] w1 fun e w'=>e=.returned (.bool (decide (65535<y+eI s y-a)))/\Rs w0 w' g s y a f l):=hfl;rw [bQ d1] at HF2;clear hc hfl hpp d2
   by_cases hf:65535<y+dw s y-a
   ·have HE:Hid (ap s a 1=(a,103)):=oV d1 HY.out.2.2 HN.out hf;rw [QF hf] at HF2;clear hf
    go_wp2_with (first|(go_at_call 171;refine HPt.out.mono ?_;rintro e w2 ⟨rfl,hw⟩;replace hw:=hw.symm;subst hw)|(go_at_call 174;refine HF2.out.mono ?_;rintro e w3 ⟨rfl,hr3⟩))
    simp only [Exit.jump]
    go_ret
    rw [HE.out];exact ⟨rfl,TP.bad HE.out (by decide) HY.out.2.1 y2 hr3 (by intro h;cases h)⟩
   ·have HO:Hid (cd s a 1 y m=.on (dw s y)):=oU d1 HN.out hf;rw [QH hf] at HF2;clear hf
    go_wp2_with (first|(go_at_call 171;refine HPt.out.mono ?_;rintro e w2 ⟨rfl,hw⟩;replace hw:=hw.symm;subst hw)|(go_at_call 174;refine HF2.out.mono ?_;rintro e w3 ⟨rfl,hr3⟩))
    go_step3
    refine ⟨rfl,⟨y,_,_,_,_,_,_,_,_,_,_,_,_,_,_,_,_,_,_,_,_,_,_,_,_,_,_,_,_,_,_,_,_,_,_,_,_,_,_,⟨y2,d1,HY.out.2.1,hr3,m,HY.out.2.2,HO.out⟩,rfl⟩,?_⟩;rw [HX.out.1,hr3.at];have:=HX.out.2;omega
  ·have hc1:ij (aV s y)=false:=by simpa using hc
   rw [hc1] at HPt
   have HE:Hid (ap s a 1=(y,0)):=by
    refine oS y3 HY.out.2.2 ?_;rw [hc1] at hpp
    by_cases e:y<s.size
    ·rw [QF e,RC] at hpp;exact .inr (.inl ⟨rfl,hpp.symm⟩)
    ·exact .inl (by omega)
   have hKw:=hK.below HY.out.1.bel;obtain ⟨kd,hkd⟩:∃kd:Nat,(if ky (s.extract a y)=true then 2 else 1)=kd:=⟨_,rfl⟩
   have HWk:Hid (Qu 173 #[.pointer (some ⟨g,0,none⟩)] w1 fun e w'=>e=.returned (.int .u8 kd)/\Rs w0 w' g s y a f l):=by
    obtain ⟨h1',h2',v,h3,h4⟩:=HY.out.1;refine (kb h3 hKw hs y2 y3).mono ?_;rintro e w' ⟨rfl,hb⟩;refine ⟨?_,Rq.below ⟨h1',h2',v,h3,h4⟩ hb⟩;rw [<-hkd];split <;> rfl
   have HTl:Hid (∀V,Rs w0 V g s y a f l->Qu 172 #[.pointer (some ⟨g,0,none⟩),.int .u8 kd] V fun e w'=>e=.returned (.int .i64 0)/\Rs w0 w' g s y a 0 (l++[tv s (cy s 1 a y f)])):=fun V hV=>by
    have:=cz hV kd hs y2 y3 hl (by intro h;rw [<-hkd] at h;split at h <;> cases h);have e7:(if kd=7 then aZ s y else y)=y:=Eq (by rw [<-hkd];split <;> decide);rw [e7] at this
    have e8:cy s 1 a y f=⟨kd,a,y,f⟩:=by
     unfold cy;rw [<-hkd]
     congr 1
     by_cases e:ky (s.extract a y)=true
     ·rw [IO ⟨rfl,e⟩,IO e]
     ·rw [Eq (fun h=>e h.2),Eq e]
    rw [e8];exact this
   clear hc hc1 hfl hpp hKw hkd
   go_wp2_with (first|(go_at_call 171;refine HPt.out.mono ?_;rintro e w2 ⟨rfl,hw⟩;replace hw:=hw.symm;subst hw)|(go_at_call 173;refine HWk.out.mono ?_;rintro e w4 ⟨rfl,hr4⟩)|(go_at_call 172;refine (HTl.out _ hr4).mono ?_;rintro e w3 ⟨rfl,hr3⟩))
   simp only [Exit.jump]
   go_ret
   rw [HE.out];exact ⟨rfl,TP.ok HE.out hr3⟩
end Go.Proofs.YtacohdpndpliaaaGreatDoor.Lx
