import Derived.Deep.Cut
import Derived.Deep.CutRange
import Derived.Test.YtpdlohfdjiaegaaGreatDoorR06
set_option linter.unusedVariables false
set_option linter.unusedSimpArgs false
set_option maxHeartbeats 4000000
namespace Go.Proofs.YtpdlohfdjiaegaaGreatDoor.Lx
open Go.RowKit
variable {s:ByteArray}{a y m g k f q b x:Nat}{o:Bool}{w0 W w':World}{l:List Tv}{p n:Int}
def TP (w0 w':World) (g:Nat) (s:ByteArray) (k a f:Nat) (l:List Tv):Prop:=
 if (ai s a k).2=0 then Rs w0 w' g s (ai s a k).1 a 0 (l++[tv s (cj s k a (ai s a k).1 f)])
 else ∃a',bd s a'/\a<=a'/\Rs w0 w' g s a' a f l/\((ai s a k).2=102->a'=(ai s a k).1)
theorem TP.ok (hE:ai s a k=(y,0)) (h:Rs w0 w' g s y a 0 (l++[tv s (cj s k a y f)])):TP w0 w' g s k a f l:=by
 unfold TP;rw [hE,zw rfl];exact h
theorem TP.bad {e a':Nat}(hE:ai s a k=(y,e)) (he:e≠0) (hb:bd s a') (ha:a<=a') (h:Rs w0 w' g s a' a f l) (h2:e=102->a'=y):TP w0 w' g s k a f l:=by
 unfold TP;rw [hE,zu he];exact ⟨a',hb,ha,h,h2⟩
def dm (w:World) (g k:Nat):Nat:=match w.cell? ⟨g,k,none⟩ with
 |some (.int _ n)=>n.toNat
 |_=>0
theorem tR {w:World}{n:Nat}(h:w.cell? ⟨g,k,none⟩=some (.int .i64 (n:Nat))):dm w g k=n:=by
 unfold dm;rw [h];simp
theorem Rs.at (h:Rs w0 W g s a b f l):dm W g 1=a:=by
 obtain ⟨h1,h2,v,h3,h4⟩:=h;exact tR (Rq.cells h3).2.1
theorem sS (s:ByteArray) (y:Nat) (h:gd s y=false):dp s y=65533:=by unfold dp;rw [xP s y h]
theorem xu:pr' (-1)=false:=by decide
theorem xv:pr' 65533=false:=by decide
theorem xH:lt' 65533=false:=by decide
theorem og (s:ByteArray) (y:Nat):pr' (rpt s y)=(decide (y<s.size) && (gd s y && pr' (dp s y))):=by
 by_cases h:y<s.size
 ·rw [dF h,zB h,AD];cases e:gd s y with
  |true=>rfl
  |false=>rw [sS s y e];exact xv
 ·rw [fD (by omega),zA h,xu];rfl
theorem co (s:ByteArray) (y:Nat) (h:y<s.size):lt' (rpt s y)=(gd s y && lt' (dp s y)):=by
 rw [dF h];cases e:gd s y with
 |true=>rfl
 |false=>rw [sS s y e];exact xH
theorem bX (s:ByteArray) (y:Nat):(decide (48<=rpt s y) && decide (rpt s y<=57))=(decide (y<s.size) && bV (by8 s y)):=by
 by_cases h:y<s.size
 ·rw [dF h,zB h,AD];unfold bV;rw [AR];simp only [zP,zM];constructor
  ·rintro ⟨h1,h2⟩;have:=tu s y (by omega);omega
  ·rintro ⟨h1,h2⟩;have:=(bj s y (by omega)).2.1;omega
 ·rw [fD (by omega),zA h];rfl
theorem aO (s:ByteArray) (y c:Nat) (hc:c<128) (h:y<s.size):rpt s y=(c:Int)↔by8 s y=c:=by
 rw [dF h];constructor
 ·intro e;exact (wP s y c hc).1 (by omega)
 ·intro e;have:=(wP s y c hc).2 e;omega
theorem bk (s:ByteArray) (y:Nat):rpt s y=-1↔s.size<=y:=by
 by_cases h:y<s.size
 ·rw [dF h];constructor <;> intro _ <;> omega
 ·rw [fD (by omega)];constructor <;> intro _ <;> first|omega|rfl
theorem nu (s:ByteArray) (y:Nat) (h:y<s.size):(decide (rpt s y<32) || decide (rpt s y=127))=dJ s y:=by
 rw [dF h];unfold dJ;cases e:gd s y with
 |true=>
  rw [AD,AR];simp only [Bf,zM,Ch];constructor <;> intro _ <;> omega
 |false=>rw [sS s y e];rfl
theorem yZ (s:ByteArray) (y:Nat) (h:y<s.size):ji (rpt s y)=cC (by8 s y):=by
 unfold ji cC;rw [AR];simp only [Bf,zM,Ch];have e1:=aO s y 32 (by decide) h;have e2:=aO s y 9 (by decide) h;have e3:=aO s y 13 (by decide) h;constructor
 ·rintro (h|h|h)
  ·exact .inl (.inl (e1.1 h))
  ·exact .inl (.inr (e2.1 h))
  ·exact .inr (e3.1 h)
 ·rintro ((h|h)|h)
  ·exact .inl (e1.2 h)
  ·exact .inr (.inl (e2.2 h))
  ·exact .inr (.inr (e3.2 h))
theorem xn {E:Nat × Nat}(hx:x<s.size) (h:run (bW s a k) s.size x m=E) (hon:bW s a k x m=.on (dw s x)):x+dw s x<=s.size/\run (bW s a k) s.size (x+dw s x) (m+1)=E:=by
 refine ⟨(aJ s x hx).2.2,?_⟩;rw [<-jS (g6 s a k) (by omega) hon];exact h
theorem iB {E:Nat × Nat}(hy:y<=s.size) (h:run (bW s a k) s.size y m=E) (hc:s.size<=y\/(k=1/\(gd s y && pr' (dp s y))=false)\/(k=3/\bV (by8 s y)=false)):E=(y,0):=by
 rw [<-h];refine cr hy ?_;unfold bW
 by_cases h1:s.size<=y
 ·rw [zw h1]
 ·rw [zu h1,zw (hc.resolve_left h1)]
theorem iD {E:Nat × Nat}(hy:y<s.size) (h:run (bW s a k) s.size y m=E) (hc:¬((k=1/\(gd s y && pr' (dp s y))=false)\/(k=3/\bV (by8 s y)=false))) (hf:65535<y+dw s y-a):E=(a,103):=by
 rw [<-h];refine cr (by omega) ?_;unfold bW;rw [zu (by omega),zu hc,zw hf]
theorem iC (hy:y<s.size) (hc:¬((k=1/\(gd s y && pr' (dp s y))=false)\/(k=3/\bV (by8 s y)=false))) (hf:¬65535<y+dw s y-a):bW s a k y m=.on (dw s y):=by
 unfold bW;rw [zu (by omega),zu hc,zu hf]
theorem fF {E:Nat × Nat}(hy:y<=s.size) (h:run (bT s a q o) s.size y m=E) (hc:s.size<=y\/by8 s y=10):E=(a,101):=by
 rw [<-h];refine cr hy ?_;unfold bT;rw [zw hc]
theorem kT {E:Nat × Nat}(hy:y<s.size) (h:run (bT s a q o) s.size y m=E) (hc:by8 s y≠10) (hf:65535<y+dw s y-a):E=(a,103):=by
 rw [<-h];refine cr (by omega) ?_;unfold bT;rw [zu (by rintro (h|h);omega;exact hc h),zw hf]
theorem jY {E:Nat × Nat}(hy:y<s.size) (h:run (bT s a q o) s.size y m=E) (hc:by8 s y≠10) (hf:¬65535<y+dw s y-a) (hq:by8 s y=q/\(o=false\/m=1)):E=(y+1,0):=by
 rw [<-h];refine cr (by omega) ?_;unfold bT;rw [zu (by rintro (h|h);omega;exact hc h),zu hf,zw hq]
theorem dN {E:Nat × Nat}(hy:y<s.size) (h:run (bT s a q o) s.size y m=E) (hc:by8 s y≠10) (hf:¬65535<y+dw s y-a) (hq:¬(by8 s y=q/\(o=false\/m=1))) (hb:dJ s y=true\/(o=true/\(m=1\/by8 s y=q))):E=(y,102):=by
 rw [<-h];refine cr (by omega) ?_;unfold bT;rw [zu (by rintro (h|h);omega;exact hc h),zu hf,zu hq,zw hb]
theorem iF {E:Nat × Nat}(hy:y<s.size) (h:run (bT s a q o) s.size y m=E) (hc:by8 s y≠10) (hf:¬65535<y+dw s y-a) (hq:¬(by8 s y=q/\(o=false\/m=1))) (hb:¬(dJ s y=true\/(o=true/\(m=1\/by8 s y=q)))):run (bT s a q o) s.size (y+dw s y) (m+1)=E:=by
 rw [<-h];refine (jS (g7 s a q o) (by omega) ?_).symm;unfold bT;rw [zu (by rintro (h|h);omega;exact hc h),zu hf,zu hq,zu hb]
theorem wj (m:Nat) (hy:y<s.size) (h10:o=false->by8 s y≠10) (h125:o=true->by8 s y≠125) (hf:y+1-a<=65535):run (bP s a o) s.size y m=run (bP s a o) s.size (y+1) (m+1):=by
 refine jS (g8 s a o) (by omega) ?_;unfold bP;rw [zu (by omega),zu (by rintro ⟨h1,h2⟩;exact h10 h1 h2),zu (by omega),zu (by rintro ⟨h1,h2⟩;exact h125 h1 h2)]
theorem kr :∀(i m:Nat),(∀j,j<i->y+j<s.size/\(o=false->by8 s (y+j)≠10)/\(o=true->by8 s (y+j)≠125)/\y+j+1-a<=65535)->run (bP s a o) s.size y m=run (bP s a o) s.size (y+i) (m+i)
 |0,m,_=>rfl
 |i+1,m,h=>by
  rw [kr i m (fun j hj=>h j (by omega))];obtain ⟨h1,h2,h3,h4⟩:=h i (by omega);exact wj (m+i) h1 h2 h3 h4
theorem nA (s:ByteArray) (y j:Nat) (hy:y<s.size) (hj:j<dw s y):y+j<s.size/\(j≠0->by8 s (y+j)≠10/\by8 s (y+j)≠125):=by
 have:=(aJ s y hy).2.2;refine ⟨by omega,fun h=>?_⟩;have:=(gu s y j (by omega) hj).2;omega
theorem ya {E:Nat × Nat}(m:Nat) (hy:y<s.size) (h10:o=false->by8 s y≠10) (h125:o=true->by8 s y≠125) (hf:y+dw s y-a<=65535) (h:run (bP s a o) s.size y m=E):run (bP s a o) s.size (y+dw s y) (m+dw s y)=E:=by
 rw [<-h];refine (kr (dw s y) m (fun j hj=>?_)).symm;obtain ⟨h1,h2⟩:=nA s y j hy hj;refine ⟨h1,fun ho=>?_,fun ho=>?_,by omega⟩
 ·by_cases e:j=0
  ·subst e;exact h10 ho
  ·exact (h2 e).1
 ·by_cases e:j=0
  ·subst e;exact h125 ho
  ·exact (h2 e).2
theorem iZ {E:Nat × Nat}(m:Nat) (hy:y<s.size) (h10:o=false->by8 s y≠10) (hay:a<=y) (hb:y-a<=65535) (hf:65535<y+dw s y-a) (h:run (bP s a o) s.size y m=E):E=(a,103):=by
 obtain ⟨i,hi⟩:∃i,y+i=a+65535:=⟨a+65535-y,by omega⟩;have hid:i<dw s y:=by omega
 obtain ⟨d1,d2,d3⟩:=aJ s y hy
 have last:∀z m,z<s.size->(o=false->by8 s z≠10)->65535<z+1-a->run (bP s a o) s.size z m=(a,103):=by
  intro z m hz h1 h2;refine cr (by omega) ?_;unfold bP;rw [zu (by omega),zu (by rintro ⟨e1,e2⟩;exact h1 e1 e2),zw h2]
 by_cases h0:i=0
 ·rw [<-h];exact last y m hy h10 (by omega)
 ·by_cases c:o=true/\by8 s y=125
  ·exfalso
   have:=(bj s y (by omega)).1;omega
  ·rw [<-h,kr i m (fun j hj=>?_)]
   ·have h2:=nA s y i hy hid;exact last (y+i) _ h2.1 (fun _=>(h2.2 h0).1) (by omega)
   ·obtain ⟨h1,h2⟩:=nA s y j hy (by omega);refine ⟨h1,fun ho=>?_,fun ho=>?_,by omega⟩
    ·by_cases e:j=0
     ·subst e;exact h10 ho
     ·exact (h2 e).1
    ·by_cases e:j=0
     ·subst e;exact fun e2=>c ⟨ho,e2⟩
     ·exact (h2 e).2
theorem lY {E:Nat × Nat}(hy:y<=s.size) (h:run (bP s a false) s.size y m=E) (hc:s.size<=y\/by8 s y=10):E=(y,0):=by
 rw [<-h];refine cr hy ?_;unfold bP
 by_cases h1:s.size<=y
 ·rw [zw h1];rfl
 ·rw [zu h1,zw ⟨rfl,hc.resolve_left h1⟩]
theorem tO {E:Nat × Nat}(hy:y<=s.size) (h:run (bP s a true) s.size y m=E) (hc:s.size<=y):E=(a,101):=by
 rw [<-h];refine cr hy ?_;unfold bP;rw [zw hc];rfl
theorem qy {E:Nat × Nat}(hy:y<s.size) (h:run (bP s a true) s.size y m=E) (hc:by8 s y=125) (hf:y+1-a<=65535):E=(y+1,0):=by
 rw [<-h];refine cr (by omega) ?_;unfold bP;rw [zu (by omega),zu (by rintro ⟨e1,e2⟩;cases e1),zu (by omega),zw ⟨rfl,hc⟩]
theorem Rq.told {v v':Value}(h1:Below w0.heap.size w0 W) (h2:w0.heap.size<=g) (h3:RB W g s a p n b f v) (h4:Rt w0.heap.size W v' l) :
  Rq w0 ((W.setCell ⟨g,8,none⟩ v').setCell ⟨g,7,none⟩ (.int .i64 0)) g s a p n b 0 l:=by
 have hne:=h4.ne h3 (by decide);refine ⟨(h1.setCell (p:=⟨g,8,none⟩) h2 _).setCell (p:=⟨g,7,none⟩) h2 _,h2,v',?_,?_⟩
 ·exact af (af h3 8 _) 7 _
 ·exact (h4.kp (Kp.set _ g 8 _) hne).kp (Kp.set _ g 7 _) hne
theorem rf {ops:Array Oper}{o:Oper}{a:Act}{K:Act->World->Prop}{Q:Exit->Act->World->Prop}{E:Prop}(hgd:o.guard=none) (s x:Operand)
  (ho:o.op=.call { callee:=.builtin .append,args:=#[s,x],argTypes:=#[60,60] }) (B:Nat) (v:Value) (l:List Tv) (d:Tv) (hs:a.eval s=v) (hr:Rt B W v l)
  (g c:Nat) (hx:a.eval x=.slice (some ⟨g,0,none⟩) 1 c) (hg:W.heap[g]?=some (.cells #[.int .u8 d.k,.string d.t,.int .i64 d.a,.int .i64 d.l,.int .i64 d.c,.int .i64 d.f] 37 (0,0))) (hl:l.length<=1000000000) (hB:B<=W.heap.size)
  (h:∀q cap w',Rt B w' (.slice (some ⟨q,0,none⟩) (l.length+1) cap) (l++[d])->Below B W w'->W.grownBy w' v.ownBlock->K (a.put o.dst (.slice (some ⟨q,0,none⟩) (l.length+1) cap)) w') :
  if Region.wanted o (yielded ops a.tmps)=true then Oper.wp Tryz.prog o a W K Q else E:=by
 obtain ⟨i0,hi,hz0,hz1,hz2⟩:=Az Tryz.info37;refine CQ W hgd s x 60 ho B 37 i0 _ 6 56 Tryz.underlying60 hi hz0 hz1 hz2 rfl (by decide) v _ _ hs hr ⟨g,0,none⟩ 1 c (tcs [d]) hx (by rw [uw];rfl) ?_ (uv [d]) (by omega) (by unfold maxLen;omega) (by omega) hB _ rfl ?_
 ·intro j u hu;refine As hg j u ?_;have e:tcs [d]=[.int .u8 d.k,.string d.t,.int .i64 d.a,.int .i64 d.l,.int .i64 d.c,.int .i64 d.f]:=by simp [tcs,aN,Tv.cs]
  rw [e] at hu
  simpa using hu
 ·intro q cap w' a1 a2 a3 _;refine h q cap w' ?_ ((gt B W).grown a2 hB hr.own) a2;unfold Rt;rw [zq,ux];exact a1
set_option maxRecDepth 100000 in
theorem oY (h:Rq w0 W g s a p n b f l) (k:Nat) (T:ByteArray) (hT:(if k=7 then s.extract b (aZ s a) else s.extract b a)=T) (h7:k=7->b<a/\cC (by8 s b)=false) (hs:s.size<=2147483647) (hba:b<=a) (ha:a<=s.size) (hl:l.length<=1000000000) :
  Aa 136 #[.pointer (some ⟨g,0,none⟩),.int .u8 k] W fun e w'=>e=.returned (.int .i64 0)/\Rq w0 w' g s a p n b 0 (l++[⟨k,T,b,pL s b,pC s b,f⟩]):=by
 obtain ⟨h1,h2,v,h3,h4⟩:=h
 have hTz:T.size<=2147483647:=by
  rw [<-hT];have:=fZ s a
  split
  ·rw [aC s b _ (by omega)];omega
  ·rw [aC s b a ha];omega
 obtain ⟨U,hU⟩:∃U,s.extract b a=U:=⟨_,rfl⟩
 have HTr:Hid (k=7->∀V,Aa 182 #[.string U,.string ⟨#[32,9,13]⟩] V fun e w'=>e=.returned (.string T)/\Ab V w'):=fun hk V=>by
  have h8:=qU U V (by rw [<-hU,aC s b a ha];omega);rw [zw hk] at hT;rw [<-hU,un s b a (h7 hk).1 ha (h7 hk).2,hT] at h8;rw [<-hU];exact h8
 have HTn:Hid (k≠7->U=T):=fun hk=>by rw [zu hk] at hT;rw [<-hU];exact hT
 have HB:Hid (Aa 144 #[.pointer (some ⟨g,0,none⟩)] W fun e w'=>e=.returned (.string U)/\∃m,w'=W.drewN m):=by rw [<-hU];exact eX h3 hs hba ha
 have HC:Hid (∀V,Aa 183 #[.string T] V fun e w'=>e=.returned (.string T)/\Ab V w'):=fun V=>qE T V hTz
 have HK:Hid (∀V,Ab W V->Ab w0 V/\RB V g s a p n b f v/\Rt w0.heap.size V v l):=fun V hb=>⟨h1.trans (hb.mono h1.size),ab h3 hb,h4.below hb⟩
 obtain ⟨vp,vc,rfl,hv1,hv2⟩:=h4.shape;clear h1 h3 h4 hT h7 hU
 go_enter Tryz.func136,Tryz.ntmps136
 go_upto_if 9 with (first|(go_at_call 144;refine HB.out.mono ?_;rintro e w1 ⟨rfl,m,hw⟩;have hb0:=bG W m;rw [<-hw] at hb0;clear hw))
 go_cut [5] from 9 (fun t wx=>t=.string T/\Hid (Below W.heap.size W wx))
 case first=>
  by_cases hk:k=7
  ·have q1:((k:Int) == 7)=true:=by simp;omega
   have HKk:Hid (k=7):=hk;clear hk
   go_wp2_with (first|(go_at_call 182;refine (HTr.out HKk.out _).mono ?_;rintro e w2 ⟨rfl,hb2⟩))
   go_meet
   exact ⟨rfl,hb0.trans (hb2.mono hb0.size)⟩
  ·have q1:((k:Int) == 7)=false:=by simp;omega
   have HKk:Hid (k≠7):=hk;clear hk
   go_wp2_with fail
   go_meet
   exact ⟨by rw [HTn.out HKk.out],hb0⟩
 case rest=>
  obtain ⟨rfl,HW⟩:=hcut;have hb0:=HW.out
  go_wp2_with fail
  have HK1:Hid (∀V,Ab wc V->Ab w0 V/\RB V g s a p n b f (.slice vp l.length vc)/\Rt w0.heap.size V (.slice vp l.length vc) l):=fun V hb=>HK.out V (hb0.trans (hb.mono hb0.size))
  obtain ⟨_,k3,_⟩:=HK1.out _ (gt _ _);obtain ⟨c0,c1,c2,c3,c4,c5,c6,c7,c8⟩:=Rq.cells k3;have hlt:=ah k3;clear HK HB hb0 k3 c0 c1 c2 c3
  have HA:Hid (∀V q cap w',Ab wc V->Rt w0.heap.size w' (.slice (some ⟨q,0,none⟩) (l.length+1) cap) (l++[⟨k,T,b,pL s b,pC s b,f⟩])->Below w0.heap.size V w'->V.grownBy w' (Value.slice vp l.length vc).ownBlock->RB w' g s a p n b f (.slice vp l.length vc)/\Ab w0 w'):=fun V q cap w' hV hr hb hg=>by
   obtain ⟨x1,x3,x4⟩:=HK1.out _ hV;exact ⟨(Kp.of_grown hg).blk x3 (fun e=>x4.ne x3 (by decide) _ e.symm rfl),x1.trans hb⟩
  go_region_law (first|(go_simp;go_at_call 183;refine (HC.out _).mono ?_;rintro e w2 ⟨rfl,hb2⟩;have hbW:Below wc.heap.size wc w2:=(gt wc.heap.size wc).drew.trans (hb2.mono (eq _));obtain ⟨y1,y3,yr⟩:=HK1.out _ hbW;obtain ⟨_,_,_,_,y4,y5,y6,y7,y8⟩:=Rq.cells y3;have hlt2:=ah y3;have hs0:=y1.size)|(refine rf (by rfl) _ _ (by rfl) w0.heap.size (.slice vp l.length vc) l ⟨k,T,b,pL s b,pC s b,f⟩ (by rfl) (yr.below ((gt _ _).alloc (eq _) _)) w2.heap.size 1 (by rfl) (ag _ _) hl (by rw [ge];exact Nat.le_succ_of_le hs0) ?_;intro q cap w3 hr3 hb3 hg3;obtain ⟨z3,z1⟩:=HA.out _ _ _ _ (hbW.alloc hbW.size _) hr3 hb3 hg3;have HF:Hid (Rq w0 ((w3.setCell ⟨g,8,none⟩ (.slice (some ⟨q,0,none⟩) (l.length+1) cap)).setCell ⟨g,7,none⟩ (.int .i64 0)) g s a p n b 0 (l++[⟨k,T,b,pL s b,pC s b,f⟩])):=Rq.told z1 h2 z3 hr3;have zf:=z3.frozen 8;have zc:w3.cell? ⟨g,8,none⟩=some (.slice vp l.length vc):=aa z3 rfl;have zg:=z3.frozen 7;have zd:w3.cell? ⟨g,7,none⟩=some (.int .i64 f):=aa z3 rfl;clear hr3 hb3 hg3 z3 z1 y1 y3 yr))
  all_goals (
   go_wp2_with fail
   go_ret
   exact ⟨rfl,HF.out⟩)
theorem bH (h:Rs w0 W g s y a f l) (k:Nat) (hs:s.size<=2147483647) (hay:a<=y) (hy:y<=s.size) (hl:l.length<=1000000000) (h7:k=7->a<y/\cC (by8 s a)=false) :
  Aa 136 #[.pointer (some ⟨g,0,none⟩),.int .u8 k] W fun e w'=>e=.returned (.int .i64 0)/\Rs w0 w' g s y a 0 (l++[tv s ⟨k,a,if k=7 then aZ s y else y,f⟩]):=by
 refine (oY h k _ rfl h7 hs hay hy hl).mono ?_;rintro e w' ⟨rfl,hr⟩;refine ⟨rfl,?_⟩
 have e:tv s ⟨k,a,if k=7 then aZ s y else y,f⟩=⟨k,if k=7 then s.extract a (aZ s y) else s.extract a y,a,pL s a,pC s a,f⟩:=by
  unfold tv
  by_cases e:k=7
  ·simp only [zw e]
  ·simp only [zu e]
 rw [e];exact hr
theorem zi (h:aq s a=3):bV (by8 s a)=true:=by
 unfold aq at h
 repeat' split at h
 all_goals first|assumption|(cases h;done)
theorem zj (h:aq s a=1):(gd s a && lt' (dp s a))=true:=by
 unfold aq at h
 repeat' split at h
 all_goals first|assumption|(cases h;done)
theorem zh (h:aq s a=4):by8 s a=34:=by
 unfold aq at h
 repeat' split at h
 all_goals first|assumption|(cases h;done)
theorem ze (h:aq s a=5):by8 s a=39:=by
 unfold aq at h
 repeat' split at h
 all_goals first|assumption|(cases h;done)
theorem yk (h:aq s a=7):by8 s a=47/\a+1<s.size/\by8 s (a+1)=47:=by
 unfold aq at h
 repeat' split at h
 all_goals first|assumption|(cases h;done)
theorem zb (h:aq s a=8):by8 s a=123:=by
 unfold aq at h
 repeat' split at h
 all_goals first|assumption|(cases h;done)
theorem xY {c:Nat}(h:bV c=true):48<=c/\c<=57:=by
 unfold bV at h
 simpa using h
structure JN (w0 W:World) (g:Nat) (s:ByteArray) (k a f:Nat) (l:List Tv) (x:Nat):Prop where
 ax:a<=x
 xs:x<s.size
 bx:bd s x
 rs:Rs w0 W g s x a f l
 on:∃m,run (bW s a k) s.size x m=ai s a k/\bW s a k x m=.on (dw s x)
theorem JN.next {W':World}(h:JN w0 W g s k a f l x) (hr:Rs w0 W' g s (x+rsz s x) a f l) :
  ∃y,x<y/\a<=y/\y<=s.size/\bd s y/\Rs w0 W' g s y a f l/\∃m,run (bW s a k) s.size y m=ai s a k:=by
 obtain ⟨h1,h2,h3,h4,m,h5,h6⟩:=h;obtain ⟨e1,e2⟩:=xn h2 h5 h6;have d:=(aJ s x h2).1;rw [aV h2] at hr;exact ⟨x+dw s x,by omega,by omega,e1,eY h3 h2,hr,m+1,e2⟩
theorem vh (h:Rs w0 W g s a a f l) (hs:s.size<=2147483647) (ha:a<s.size) (hb:bd s a) (hk:aq s a=3) (hl:l.length<=1000000000) :
  Aa 88 #[.pointer (some ⟨g,0,none⟩)] W fun e w'=>e=.returned (.int .i64 ((ai s a 3).2:Nat))/\TP w0 w' g s 3 a f l:=by
 have hd:=zi hk;have hd2:=xY hd;have hE:ai s a 3=run (bW s a 3) s.size a 0:=by unfold ai;simp
 have hw:=(bj s a (by omega)).1;have hJ0:JN w0 W g s 3 a f l a:=⟨eq _,ha,hb,h,0,hE.symm,iC ha (by rintro (⟨h,_⟩|⟨_,h⟩);cases h;rw [hd] at h;cases h) (by omega)⟩
 have HT:Hid (∀V x,JN w0 V g s 3 a f l x->Aa 133 #[.pointer (some ⟨g,0,none⟩)] V fun e w'=>e=.returned (.tuple #[])/\∃y,x<y/\a<=y/\y<=s.size/\bd s y/\Rs w0 w' g s y a f l/\∃m,run (bW s a 3) s.size y m=ai s a 3):=fun V x hx=>by
  refine (bq hx.rs hs (At hx.xs)).mono ?_;rintro e w' ⟨rfl,hr⟩;exact ⟨rfl,hx.next hr⟩
 have HD:Hid (∀p V,Aa 87 #[.int .i32 p] V fun e w'=>e=.returned (.bool (decide (48<=p) && decide (p<=57)))/\w'=V):=aU
 have HP:Hid (∀V y,Rs w0 V g s y a f l->a<=y->y<=s.size->(Aa 136 #[.pointer (some ⟨g,0,none⟩),.int .u8 3] V fun e w'=>e=.returned (.int .i64 0)/\Rs w0 w' g s y a 0 (l++[tv s (cj s 3 a y f)]))/\(Aa 138 #[.pointer (some ⟨g,0,none⟩)] V fun e w'=>e=.returned (.bool (decide (65535<y+rsz s y-a)))/\Rs w0 w' g s y a f l)):=fun V y hr h1 h2=>by
  constructor
  ·exact bH hr 3 hs h1 h2 hl (by intro h;cases h)
  ·obtain ⟨h1',h2',v,h3,h4⟩:=hr;refine (dj h3 hs h1 h2 (by by_cases e:y<s.size;rw [aV e];exact (aJ s y e).2.1;rw [du (by omega)];omega)).mono ?_;rintro e w' ⟨rfl,hb⟩;exact ⟨rfl,Rq.below ⟨h1',h2',v,h3,h4⟩ hb⟩
 have HC:Hid (∀V y,Rs w0 V g s y a f l->V.cell? ⟨g,2,none⟩=some (.int .i32 (rpt s y))):=fun V y hr=>by
  obtain ⟨h1',h2',v,h3,h4⟩:=hr;exact (Rq.cells h3).2.2.1
 have c2:=HC.out _ _ h;have q0:(decide (48<=rpt s a) && decide (rpt s a<=57))=true:=by rw [bX,zB ha,hd];rfl
 have HJ0:Hid (JN w0 W g s 3 a f l a):=hJ0;have HD0:Hid (Aa 87 #[.int .i32 (rpt s a)] W fun e w'=>e=.returned (.bool true)/\w'=W):=by rw [<-q0];exact aU _ _
 clear hd hd2 hE hw hJ0 h hk q0
 go_enter Tryz.func88,Tryz.ntmps88
 go_wp2_with fail
 refine A0 0 (fun a' w'=>∃(x:Nat) (u1 u2 u3 u4 u5 u6 u7 u8 u9 u10 u11 u12 u13 u14 u15 u16 u17 u18 u19 u20 u21 u22 u23 u24 u25 u26 u27 u28 u29 u30 u31 u32 u33 u34 u35 u36 u37 u38:Value),Hid (JN w0 w' g s 3 a f l x)/\a'={ tmps:=#[.pointer (some ⟨g,0,none⟩),u1,u2,u3,u4,u5,u6,u7,u8,u9,u10,u11,u12,u13,u14,u15,u16,u17,u18,u19,u20,u21,u22,u23,u24,u25,u26,u27,u28,u29,u30,u31,u32,u33,u34,u35,u36,u37,u38],defers:=[] }) (fun _ w'=>s.size-dm w' g 1) rfl ?_ ?_
 ·go_wp2_with (first|(go_at_call 87;refine HD0.out.mono ?_;rintro e w1 ⟨rfl,hw⟩;replace hw:=hw.symm;subst hw))
  go_step3
  exact ⟨rfl,a,_,_,_,_,_,_,_,_,_,_,_,_,_,_,_,_,_,_,_,_,_,_,_,_,_,_,_,_,_,_,_,_,_,_,_,_,_,_,HJ0,rfl⟩
 ·rintro a' w' ⟨x,u1,u2,u3,u4,u5,u6,u7,u8,u9,u10,u11,u12,u13,u14,u15,u16,u17,u18,u19,u20,u21,u22,u23,u24,u25,u26,u27,u28,u29,u30,u31,u32,u33,u34,u35,u36,u37,u38,HJ,rfl⟩;have HX:Hid (dm w' g 1=x/\x<s.size):=⟨HJ.out.rs.at,HJ.out.xs⟩
  go_wp2_with fail
  refine (HT.out _ _ HJ.out).mono ?_;rintro e w1 ⟨rfl,y,y1,y2,y3,y4,y5,m,y6⟩;have z2:=HC.out _ _ y5;obtain ⟨t1,t2⟩:=HP.out _ _ y5 y2 y3;have HY:Hid (Rs w0 w1 g s y a f l/\bd s y/\run (bW s a 3) s.size y m=ai s a 3):=⟨y5,y4,y6⟩;clear HJ y5 y4 y6 c2
  by_cases hc:(decide (48<=rpt s y) && decide (rpt s y<=57))=true
  ·have HDy:Hid (Aa 87 #[.int .i32 (rpt s y)] w1 fun e w'=>e=.returned (.bool true)/\w'=w1):=by rw [<-hc];exact aU _ _
   have hc2:=hc;rw [bX,zP,zM] at hc2;obtain ⟨d1,d2⟩:=hc2
   have HN:Hid (¬((3=1/\(gd s y && pr' (dp s y))=false)\/((3:Nat)=3/\bV (by8 s y)=false))):=by
    show ¬_
    rintro (⟨h,_⟩|⟨_,h⟩)
    ·cases h
    ·rw [d2] at h;cases h
   have HF2:Hid (Aa 138 #[.pointer (some ⟨g,0,none⟩)] w1 fun e w'=>e=.returned (.bool (decide (65535<y+rsz s y-a)))/\Rs w0 w' g s y a f l):=t2;rw [aV d1] at HF2;clear hc t1 t2
   by_cases hf:65535<y+dw s y-a
   ·have HE:Hid (ai s a 3=(a,103)):=iD d1 HY.out.2.2 HN.out hf;rw [zB hf] at HF2;clear hf
    go_wp2_with (first|(go_at_call 87;refine HDy.out.mono ?_;rintro e w2 ⟨rfl,hw⟩;replace hw:=hw.symm;subst hw)|(go_at_call 138;refine HF2.out.mono ?_;rintro e w3 ⟨rfl,hr3⟩))
    simp only [Exit.jump]
    go_ret
    rw [HE.out];exact ⟨rfl,TP.bad HE.out (by decide) HY.out.2.1 y2 hr3 (by intro h;cases h)⟩
   ·have HO:Hid (bW s a 3 y m=.on (dw s y)):=iC d1 HN.out hf;rw [zA hf] at HF2;clear hf
    go_wp2_with (first|(go_at_call 87;refine HDy.out.mono ?_;rintro e w2 ⟨rfl,hw⟩;replace hw:=hw.symm;subst hw)|(go_at_call 138;refine HF2.out.mono ?_;rintro e w3 ⟨rfl,hr3⟩))
    go_step3
    refine ⟨rfl,⟨y,_,_,_,_,_,_,_,_,_,_,_,_,_,_,_,_,_,_,_,_,_,_,_,_,_,_,_,_,_,_,_,_,_,_,_,_,_,_,⟨y2,d1,HY.out.2.1,hr3,m,HY.out.2.2,HO.out⟩,rfl⟩,?_⟩;rw [HX.out.1,hr3.at];have:=HX.out.2;omega
  ·have hc1:(decide (48<=rpt s y) && decide (rpt s y<=57))=false:=by simpa using hc
   have HDy:Hid (Aa 87 #[.int .i32 (rpt s y)] w1 fun e w'=>e=.returned (.bool false)/\w'=w1):=by rw [<-hc1];exact aU _ _
   have HE:Hid (ai s a 3=(y,0)):=by
    refine iB y3 HY.out.2.2 ?_;rw [bX] at hc1
    by_cases e:y<s.size
    ·rw [zB e,AD] at hc1;exact .inr (.inr ⟨rfl,hc1⟩)
    ·exact .inl (by omega)
   have HTl:Hid (Aa 136 #[.pointer (some ⟨g,0,none⟩),.int .u8 3] w1 fun e w'=>e=.returned (.int .i64 0)/\Rs w0 w' g s y a 0 (l++[tv s (cj s 3 a y f)])):=t1;clear hc hc1 t1 t2
   go_wp2_with (first|(go_at_call 87;refine HDy.out.mono ?_;rintro e w2 ⟨rfl,hw⟩;replace hw:=hw.symm;subst hw)|(go_at_call 136;refine HTl.out.mono ?_;rintro e w3 ⟨rfl,hr3⟩))
   simp only [Exit.jump]
   go_ret
   rw [HE.out];exact ⟨rfl,TP.ok HE.out hr3⟩
end Go.Proofs.YtpdlohfdjiaegaaGreatDoor.Lx
