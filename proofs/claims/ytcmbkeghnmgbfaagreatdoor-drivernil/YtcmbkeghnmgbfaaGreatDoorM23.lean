import Derived.Test.YtcmbkeghnmgbfaaGreatDoorM22
set_option linter.all false
set_option maxHeartbeats 16000000
set_option maxRecDepth 100000
namespace Go.Proofs.YtcmbkeghnmgbfaaGreatDoor.Lw
open Go.Proofs.Tryz
open Lx
open Go.RowKit
variable {w:World}{m:Pm}{tot:Int}
theorem eL {B:Nat}{W V:World}{m:Nat}(h:Below B W V):Below B W (V.drewN m):=below_drewN h m
section
variable {own:Nat->Nat} {W:World} {g N gs qh qw:Nat} {v:Value} {csh csw:List (Nat × List Nat)} {c:CS}
theorem wU (h:ST own W g N gs qh qw v csh csw c) {b:Nat}{x:Px}(hb:c.m b=some x) {n:Nat}(hn:x.need c.tot=(n:Nat)) (ab:n<=1000000000000000) {U:Nat}(hp:Bp c.pr U) (hU:U<=2147483647) (hN:N<=4096) :
  Kb 154 #[.pointer (some ⟨g,0,none⟩),.pointer (some ⟨b,0,none⟩)] W fun e w'=>e=.returned (.bool (pD N c.pr x.d x.st n))/\Kc W w':=by
 have HW:Hid (∀V,Kc W V->Kb 197 #[.pointer (some ⟨b,0,none⟩)] V fun e w'=>e=.returned (.bool (jO x.d&&!x.st))/\∃m,w'=V.drewN m):=fun V G=>by
  refine(mJ b x V ((h.below G).pm b x hb).1).mono ?_;rintro e w'⟨rfl,rfl⟩;exact⟨rfl,0,rfl⟩
 have O:Hid (∀V,Kc W V->Kb 156 #[.pointer (some ⟨g,0,none⟩),.pointer (some ⟨b,0,none⟩)] V fun e w'=>e=.returned (.int .i64 (n:Nat))/\Kc W w'):=fun V G=>by
  have:=li g b x c.tot V (h.below G).c2 ((h.below G).pm b x hb).1;rw[hn]at this;refine this.mono ?_;rintro e w'⟨rfl,F⟩;exact⟨rfl,G.trans (F.mono G.size)⟩
 have M:Hid (∀V,Kc W V->Kb 198 #[.pointer (some ⟨g,7,none⟩),.int .i64 (n:Nat)] V fun e w'=>e=.returned (.bool (c.pr.fits N n))/\Kc W w'/\w'.cell? ⟨b,0,none⟩=some (.int .u8 x.d.k)/\w'.cell? ⟨g,10,none⟩=some (.bool c.pr.bl.ev)):=fun V G=>by
  refine(jx (h.below G).pg hp hU n ab hN).mono ?_;rintro e w'⟨rfl,F⟩;have hW:=G.trans (F.mono G.size);exact⟨rfl,hW,aa ((h.below hW).pm b x hb).1 rfl,(h.below hW).c10⟩
 have HG:=ku fun V (G:Kc W V)=>im (h.below G).pg
 have H:Hid (∀V m,Kc W V->Kc W (V.drewN m)):=fun V m G=>eL G
 unfold pD;rw[show decide (x.d.k=6\/x.d.k=3)=jO x.d from rfl];have e3:decide (x.d.k=3)=(x.d.k==3):=by rw[MP]
 rw[e3]
 generalize(jO x.d&&!x.st)=wv at *
 generalize x.d.k=k at *
 generalize c.pr.fits N n=f at *
 generalize c.pr.bl.ev=ev at *
 generalize c.pr.sk.fresh=fr at *
 clear h hb hp e3 hn;cases wv
 ·go_enter func154,ntmps154
  go_wp2_with fail
  go_quiet ((go_at_call 197;exact Calls.quiet_of (HW.out _ (H.out _ _ (gt _ _)))))
  go_wp2_with fail
  go_ret
  exact⟨by simp,eF _ _⟩
 ·cases f
  ·go_enter func154,ntmps154
   go_wp2_with fail
   go_region_held3 (fun w'=>Kc W w') (first|assumption|exact H.out _ _ (gt _ _)|exact(gt _ _).drew|go_keep) (first|(go_at_call 197;refine(HW.out _ (by first|assumption|exact(gt _ _).drew|exact gt _ _)).mono ?_;rintro e w1⟨rfl,I,rfl⟩;have J:=eL (m:=I) (by first|assumption|exact(gt W.heap.size W).drew|exact gt W.heap.size W))|(go_at_call 156;refine(O.out _ (by first|assumption|exact H.out _ _ (gt _ _)|exact(gt _ _).drew)).mono ?_;rintro e w2⟨rfl,F⟩)|(go_at_call 198;refine(M.out _ (by first|assumption|exact H.out _ _ (gt _ _)|exact(gt _ _).drew)).mono ?_;rintro e w3⟨rfl,hb3,y1,y2⟩))
   all_goals(
    have u:=ku hb3;clear hb3
    go_wp2_with fail
    go_ret
    exact⟨by simp,u.out⟩)
  ·by_cases h3:k=3
   ·subst h3;cases fr
    ·go_enter func154,ntmps154
     go_wp2_with fail
     go_region_held3 (fun w'=>Kc W w') (first|assumption|exact H.out _ _ (gt _ _)|exact(gt _ _).drew|go_keep) (first|(go_at_call 197;refine(HW.out _ (by first|assumption|exact(gt _ _).drew|exact gt _ _)).mono ?_;rintro e w1⟨rfl,I,rfl⟩;have J:=eL (m:=I) (by first|assumption|exact(gt W.heap.size W).drew|exact gt W.heap.size W))|(go_at_call 156;refine(O.out _ (by first|assumption|exact H.out _ _ (gt _ _)|exact(gt _ _).drew)).mono ?_;rintro e w2⟨rfl,F⟩)|(go_at_call 198;refine(M.out _ (by first|assumption|exact H.out _ _ (gt _ _)|exact(gt _ _).drew)).mono ?_;rintro e w3⟨rfl,hb3,y1,y2⟩))
     all_goals(
      have u:=ku hb3;clear hb3
      go_wp2_with fail
      refine(HG.out _ u.out).mono ?_;rintro e w4⟨rfl,rfl⟩
      go_wp2_with fail
      go_ret
      exact⟨by simp,u.out⟩)
    ·go_enter func154,ntmps154
     go_wp2_with fail
     go_region_held3 (fun w'=>Kc W w') (first|assumption|exact H.out _ _ (gt _ _)|exact(gt _ _).drew|go_keep) (first|(go_at_call 197;refine(HW.out _ (by first|assumption|exact(gt _ _).drew|exact gt _ _)).mono ?_;rintro e w1⟨rfl,I,rfl⟩;have J:=eL (m:=I) (by first|assumption|exact(gt W.heap.size W).drew|exact gt W.heap.size W))|(go_at_call 156;refine(O.out _ (by first|assumption|exact H.out _ _ (gt _ _)|exact(gt _ _).drew)).mono ?_;rintro e w2⟨rfl,F⟩)|(go_at_call 198;refine(M.out _ (by first|assumption|exact H.out _ _ (gt _ _)|exact(gt _ _).drew)).mono ?_;rintro e w3⟨rfl,hb3,y1,y2⟩))
     all_goals(
      have u:=ku hb3;clear hb3
      go_wp2_with fail
      refine(HG.out _ u.out).mono ?_;rintro e w4⟨rfl,rfl⟩
      go_wp2_with fail
      go_ret
      exact⟨by simp,u.out⟩)
   ·have hk:(k==3)=false:=by simpa using h3
    go_enter func154,ntmps154
    go_wp2_with fail
    go_region_held3 (fun w'=>Kc W w') (first|assumption|exact H.out _ _ (gt _ _)|exact(gt _ _).drew|go_keep) (first|(go_at_call 197;refine(HW.out _ (by first|assumption|exact(gt _ _).drew|exact gt _ _)).mono ?_;rintro e w1⟨rfl,I,rfl⟩;have J:=eL (m:=I) (by first|assumption|exact(gt W.heap.size W).drew|exact gt W.heap.size W))|(go_at_call 156;refine(O.out _ (by first|assumption|exact H.out _ _ (gt _ _)|exact(gt _ _).drew)).mono ?_;rintro e w2⟨rfl,F⟩)|(go_at_call 198;refine(M.out _ (by first|assumption|exact H.out _ _ (gt _ _)|exact(gt _ _).drew)).mono ?_;rintro e w3⟨rfl,hb3,y1,y2⟩))
    all_goals(
     have u:=ku hb3;clear hb3
     go_wp2_with fail
     go_ret
     exact⟨by simp[hk],u.out⟩)
theorem kU (h:ST own W g N gs qh qw v csh csw c) {b:Nat}{x:Px}(F:c.m b=some x) {l:List Nat}(hl:c.wl=l++[b]) (hw:c.wl.length<=1000000000) :
  Kb 163 #[.pointer (some ⟨g,0,none⟩),.pointer (some ⟨b,0,none⟩)] W fun e w'=>e=.returned (.tuple #[])/\T9 own W w' g N { c with m:=fj c.m b (x.settle c.tot),wl:=l }:=by
 have HN:Hid (Kb 156 #[.pointer (some ⟨g,0,none⟩),.pointer (some ⟨b,0,none⟩)] W fun e w'=>e=.returned (.int .i64 (x.need c.tot))/\Hid (Kc W w')/\(w'.cell? ⟨b,7,none⟩=some (.int .i64 x.nd)/\w'.cell? ⟨b,6,none⟩=some (.bool x.st))/\w'.frozen? ⟨b,7,none⟩=false/\w'.frozen? ⟨b,6,none⟩=false):=by
  refine(li g b x c.tot W h.c2 (h.pm b x F).1).mono ?_;rintro e w'⟨rfl,I⟩;have G:=((h.below I).pm b x F).1;exact⟨rfl,I,⟨aa G rfl,aa G rfl⟩,aj G,aj G⟩
 have HP:Hid (∀V,Kc W V->Kb 217 #[.pointer (some ⟨g,5,none⟩)] ((V.setCell ⟨b,7,none⟩ (.int .i64 (x.need c.tot))).setCell ⟨b,6,none⟩ (.bool true)) fun e w'=>e=.returned (.tuple #[])/\T9 own W w' g N { c with m:=fj c.m b (x.settle c.tot),wl:=l }):=fun V M=>by
  have h0:=h.below M;have h1:=h0.setp (y:=⟨x.d,x.ah,x.st,x.need c.tot⟩) F 7 (.int .i64 (x.need c.tot)) rfl;have h2:=h1.setp (y:=x.settle c.tot) (cg _ _ _) 6 (.bool true) rfl
  have u:ST own ((V.setCell ⟨b,7,none⟩ (.int .i64 (x.need c.tot))).setCell ⟨b,6,none⟩ (.bool true)) g N gs qh qw v csh csw { c with m:=fj c.m b (x.settle c.tot) }:=by
   have e:fj (fj c.m b ⟨x.d,x.ah,x.st,x.need c.tot⟩) b (x.settle c.tot)=fj c.m b (x.settle c.tot):=by
    funext k;unfold fj;split<;>rfl
   have H:ST own ((V.setCell ⟨b,7,none⟩ (.int .i64 (x.need c.tot))).setCell ⟨b,6,none⟩ (.bool true)) g N gs qh qw v csh csw { c with m:=fj (fj c.m b ⟨x.d,x.ah,x.st,x.need c.tot⟩) b (x.settle c.tot) }:=h2;rw[e]at H;exact H
  have J:fl csw=l++[b]:=h.wl.trans hl;refine(qF u.rw u.en.nf u.lab c.wl.length hw u.c5 u.c6 (u.fz 6) J).mono ?_;rintro e w'⟨rfl,W1,rfl,ha⟩;refine⟨rfl,?_⟩;obtain⟨own',gs',qh',qw',v',csh',csw',k1,k2⟩:=u.rowW ha (n:=(c.wl.length:Int)-1) (by rw[hl];simp);have z1:Fz own own W V:=Fz.of_below M;obtain⟨G,p2⟩:=h.pm b x F;have z2:Fz own own V ((V.setCell ⟨b,7,none⟩ (.int .i64 (x.need c.tot))).setCell ⟨b,6,none⟩ (.bool true)):=((bV.set (P:=fun i=>i=5) p2 7 _).trans (bV.set (P:=fun i=>i=5) p2 6 _)).fz (by omega);exact⟨own',gs',qh',qw',v',csh',csw',k1,(z1.trans z2).trans k2⟩
 have ab:b≠g:=fun e=>by
  have:=(h.pm b x F).2;rw[e,h.lab]at this;cases this
 clear h F hl
 generalize x.need c.tot=n at *
 go_enter func163,ntmps163
 go_wp2_with fail
 refine HN.out.mono ?_;rintro e w1⟨rfl,O,⟨y1,y2⟩,y3,y4⟩
 go_wp2_with(go_at_call 217;refine(HP.out _ O.out).mono ?_;rintro e w2⟨rfl,hT⟩)
 go_end0
 exact⟨rfl,hT⟩
end
section
variable {own:Nat->Nat} {W V:World} {g N:Nat} {c c':CS}
theorem T9.step {u:Nat->Nat}{w':World}(F:Fz own u W V) (k:T9 u V w' g N c'):T9 own W w' g N c':=by
 obtain⟨o,gs,qh,qw,v,csh,csw,G,H⟩:=k;exact⟨o,gs,qh,qw,v,csh,csw,G,F.trans H⟩
theorem T9.below {w':World}(h:T9 own W V g N c) (u:Below V.heap.size V w'):T9 own W w' g N c:=by
 obtain⟨o,gs,qh,qw,v,csh,csw,F,G⟩:=h;exact⟨o,gs,qh,qw,v,csh,csw,F.below u,G.trans (Fz.of_below u)⟩
theorem ST.t9 {gs qh qw:Nat}{v:Value}{csh csw:List (Nat × List Nat)}(h:ST own W g N gs qh qw v csh csw c):T9 own W W g N c:=⟨own,gs,qh,qw,v,csh,csw,h,Fz.refl _ _⟩
theorem GY (h:T9 own W V g N c):Kb 162 #[.pointer (some ⟨g,5,none⟩)] V fun e w'=>e=.returned (.tuple #[.pointer (pa c.wl.getLast?),.bool (!c.wl.isEmpty)])/\T9 own W w' g N c:=by
 have F:=h;obtain⟨o,gs,qh,qw,v,csh,csw,u,G⟩:=h;have:=AZ u.rw u.c5;rw[u.wl]at this;refine this.mono ?_;rintro e w'⟨rfl,hb⟩;exact⟨rfl,F.below hb⟩
theorem EC (h:T9 own W V g N c):Kb 153 #[.pointer (some ⟨g,3,none⟩)] V fun e w'=>e=.returned (.tuple #[.pointer (pa c.hl.head?),.bool (!c.hl.isEmpty)])/\T9 own W w' g N c:=by
 have F:=h;obtain⟨o,gs,qh,qw,v,csh,csw,u,G⟩:=h;have:=jz u.rh u.c3;rw[u.hl]at this;refine this.mono ?_;rintro e w'⟨rfl,hb⟩;exact⟨rfl,F.below hb⟩
theorem nW (h:T9 own W V g N c) {b:Nat}{x:Px}(u:c.m b=some x) {l:List Nat}(hl:c.wl=l++[b]) (F:c.wl.length<=1000000000) :
  Kb 163 #[.pointer (some ⟨g,0,none⟩),.pointer (some ⟨b,0,none⟩)] V fun e w'=>e=.returned (.tuple #[])/\T9 own W w' g N { c with m:=fj c.m b (x.settle c.tot),wl:=l }:=by
 obtain⟨o,gs,qh,qw,v,csh,csw,G,H⟩:=h;refine(kU G u hl F).mono ?_;rintro e w'⟨rfl,ha⟩;exact⟨rfl,ha.step H⟩
theorem T9.piece (h:T9 own W V g N c) {b:Nat}{x:Px}(u:c.m b=some x):V.heap[b]?=some (.cells (yS x) 255 (0,0)):=by
 obtain⟨o,gs,qh,qw,v,csh,csw,F,G⟩:=h;exact(F.pm b x u).1
theorem T9.cc (h:T9 own W V g N c):V.cell? ⟨g,0,none⟩=some (.bool false)/\V.cell? ⟨g,1,none⟩=some (.int .i64 (c.op:Nat))/\V.cell? ⟨g,2,none⟩=some (.int .i64 c.tot)/\V.cell? ⟨g,4,none⟩=some (.int .i64 (c.hl.length:Nat))/\V.cell? ⟨g,6,none⟩=some (.int .i64 (c.wl.length:Nat))/\(∀k,V.frozen? ⟨g,k,none⟩=false)/\g<V.heap.size:=by
 obtain⟨o,gs,qh,qw,v,csh,csw,u,F⟩:=h;exact⟨u.c0,u.c1,u.c2,u.c4,u.c6,u.fz,u.lt⟩
end
def lP (w:World) (g k:Nat):Nat:=match w.cell? ⟨g,k,none⟩with
 |some (.int _ n)=>n.toNat
 |_=>0
theorem iR {g k n:Nat}(h:w.cell? ⟨g,k,none⟩=some (.int .i64 (n:Nat))):lP w g k=n:=by
 unfold lP;rw[h];simp
theorem G6 (rl:List Nat):rl.reverse.getLast?=rl.head?:=by rw[List.getLast?_reverse]
theorem G2 (rl:List Nat):rl.reverse.isEmpty=rl.isEmpty:=by cases rl<;>simp
theorem C7 {m:Pm}{b:Nat}{x y:Px}(H:m b=some x) (I:y.d=x.d) {rl:List Nat}(h:∀k∈rl,∃z,m k=some z/\(z.d.k=6\/z.d.k=3)):∀k∈rl,∃z,fj m b y k=some z/\(z.d.k=6\/z.d.k=3):=by
 intro k G;obtain⟨z,u,F⟩:=h k G
 by_cases e:k=b
 ·subst e;rw[H]at u;cases u;exact⟨y,cg _ _ _,by rw[I];exact F⟩
 ·exact⟨z,by rw[fd _ _ e];exact u,F⟩
section
variable {own:Nat->Nat} {W:World} {g N:Nat} {c:CS}
theorem wY (h:T9 own W W g N c) (e:Int) (u:e=1\/e=2\/e=6):Kb 119 #[.pointer (some ⟨g,0,none⟩),.int .u8 e] W fun x w'=>x=.returned (.tuple #[])/\w'=W:=by
 clear h
 rcases u with rfl|rfl|rfl
 ·go_enter func119,ntmps119
  go_wp2_with fail
  go_step3
  go_wp2_with fail
  (try rw[L1])
  (try simp only[Exit.inBlock,Exit.then])
  refine Kv (Ol rfl _ _ _) rfl ?_;exact⟨rfl,rfl⟩
 ·go_enter func119,ntmps119
  go_wp2_with fail
  go_step3
  go_wp2_with fail
  (try rw[L1])
  (try simp only[Exit.inBlock,Exit.then])
  refine Kv (Ol rfl _ _ _) rfl ?_;exact⟨rfl,rfl⟩
 ·go_enter func119,ntmps119
  go_wp2_with fail
  go_step3
  go_wp2_with fail
  (try rw[L1])
  (try simp only[Exit.inBlock,Exit.then])
  refine Kv (Ol rfl _ _ _) rfl ?_;exact⟨rfl,rfl⟩
theorem sL (u:List Nat) (h:T9 own W W g N c) (ad:c.wl=u.reverse) (hm:∀b∈u,∃x,c.m b=some x/\(x.d.k=6\/x.d.k=3)) (ae:u.length<=1000000000) (e:Int) (he:e=3\/e=4\/e=5\/e=7) :
  Kb 119 #[.pointer (some ⟨g,0,none⟩),.int .u8 e] W fun x w'=>x=.returned (.tuple #[])/\T9 own W w' g N { c with m:=(sett c.tot e c.m u).1,wl:=(sett c.tot e c.m u).2.reverse }:=by
 obtain⟨F,hF⟩:∃F,sett c.tot e c.m u=F:=⟨_,rfl⟩;rw[hF]
 have ab:Hid (T9 own W W g N { c with m:=c.m,wl:=u.reverse }/\sett c.tot e c.m u=F/\(∀b∈u,∃x,c.m b=some x/\(x.d.k=6\/x.d.k=3))/\u.length<=1000000000):=by
  refine⟨?_,hF,hm,ae⟩;rw[<-ad];exact h
 have q1:(e==1)=false:=by rcases he with rfl|rfl|rfl|rfl<;>rfl
 have q2:(e==2)=false:=by rcases he with rfl|rfl|rfl|rfl<;>rfl
 have q6:(e==6)=false:=by rcases he with rfl|rfl|rfl|rfl<;>rfl
 have ac:Hid (∀(V:World) (m:Pm) (rl:List Nat),T9 own W V g N { c with m:=m,wl:=rl.reverse }->Kb 162 #[.pointer (some ⟨g,5,none⟩)] V fun x w'=>x=.returned (.tuple #[.pointer (pa rl.head?),.bool (!rl.isEmpty)])/\T9 own W w' g N { c with m:=m,wl:=rl.reverse }):=fun V m rl hV=>by
  have:=GY hV;simp only[G6,G2]at this;exact this
 have HS:Hid (∀(V:World) (m:Pm) (b:Nat) (x:Px) (r:List Nat),T9 own W V g N { c with m:=m,wl:=(b :: r).reverse }->m b=some x->(b :: r).length<=1000000000->Kb 163 #[.pointer (some ⟨g,0,none⟩),.pointer (some ⟨b,0,none⟩)] V fun y w'=>y=.returned (.tuple #[])/\T9 own W w' g N { c with m:=fj m b (x.settle c.tot),wl:=r.reverse }):=fun V m b x r hV hb hl=>nW hV hb (by simp) (by rw[KZ];exact hl)
 clear h ad hm hF
 go_enter func119,ntmps119
 go_wp2_with fail
 go_step3
 go_wp2_with fail
 go_step3
 go_wp2_with(go_at_call 162;refine(ac.out _ _ _ ab.out.1).mono ?_;rintro x w1⟨rfl,h1⟩)
 have af:Hid (T9 own W w1 g N { c with m:=c.m,wl:=u.reverse }/\sett c.tot e c.m u=F/\(∀b∈u,∃x,c.m b=some x/\(x.d.k=6\/x.d.k=3))/\u.length<=1000000000):=⟨h1,ab.out.2⟩;clear h1
 go_loopw [4,5] (fun s4 s5 wr=>∃(m:Pm) (rl:List Nat),s4=.pointer (pa rl.head?)/\s5=.bool (!rl.isEmpty)/\Hid (T9 own W wr g N { c with m:=m,wl:=rl.reverse }/\sett c.tot e m rl=F/\(∀b∈rl,∃x,m b=some x/\(x.d.k=6\/x.d.k=3))/\rl.length<=1000000000)) (fun _ _ wr=>lP wr g 6)
 case atStart=>exact⟨c.m,u,rfl,rfl,af.out⟩
 case round=>
  obtain⟨m,rl,rfl,rfl,HI⟩:=hrel;cases rl with
  |nil=>
   have HE:Hid (T9 own W wr g N { c with m:=F.1,wl:=F.2.reverse }):=by
    obtain⟨H,J,_⟩:=HI.out;rw[<-J];exact H
   clear HI
   go_wp2_with fail
   (first|go_end0|(rw[Ml];go_end0)|(simp only[Ml,O4,Exit.inBlock,Exit.then];go_end0)|(trace_state;fail))
   exact⟨rfl,HE.out⟩
  |cons b r=>
   obtain⟨H,J,a3,O⟩:=HI.out;obtain⟨x,hx,hk⟩:=a3 b Ko;have p0:wr.cell? ⟨b,0,none⟩=some (.int .u8 x.d.k):=aa (H.piece hx) rfl
   have G:lP wr g 6=r.length+1:=by
    have:=H.cc.2.2.2.2.1;rw[iR this];simp
   by_cases I:x.d.k=3
   ·have es:sett c.tot e (fj m b (x.settle c.tot)) r=F:=by
     rw[<-J,sett,hx];simp only[I,MG]
    have M:=ku (HS.out wr m b x r H hx O);have HE:Hid (sett c.tot e (fj m b (x.settle c.tot)) r=F/\(∀k∈r,∃z,fj m b (x.settle c.tot) k=some z/\(z.d.k=6\/z.d.k=3))/\r.length<=1000000000):=⟨es,C7 (y:=x.settle c.tot) hx rfl (fun k hk=>a3 k (KA _ hk)),by rw[List.length_cons]at O;omega⟩;have HC:=ku G;rw[I]at p0;clear HI H J a3 O hk G es I
    go_wp2_with fail
    refine M.out.mono ?_;rintro y w2⟨rfl,h2⟩;have H2:=aK h2;clear h2
    go_wp2_with(go_at_call 162;refine(ac.out _ _ _ H2.out).mono ?_;rintro x3 w3⟨rfl,I⟩)
    refine⟨⟨_,r,rfl,rfl,I,HE.out⟩,?_⟩;have:=I.cc.2.2.2.2.1;rw[HC.out,iR this];simp
   ·have h6:x.d.k=6:=by omega
    rw[h6]at p0
    by_cases h7:e=7
    ·subst h7
     have M:Hid (Kb 163 #[.pointer (some ⟨g,0,none⟩),.pointer (some ⟨b,0,none⟩)] wr fun y w'=>y=.returned (.tuple #[])/\T9 own W w' g N { c with m:=F.1,wl:=F.2.reverse }):=by
      have es:F=(fj m b (x.settle c.tot),r):=by
       rw[<-J,sett,hx];simp[I]
      rw[es];exact HS.out wr m b x r H hx O
     clear HI H J a3 O hk G I h6
     go_wp2_with fail
     refine M.out.mono ?_;rintro y w2⟨rfl,h2⟩;have H2:=aK h2;clear h2
     go_wp2_with fail
     (first|go_end0|(rw[Ml];go_end0)|(simp only[Ml,O4,Exit.inBlock,Exit.then];go_end0)|(trace_state;fail))
     exact⟨rfl,H2.out⟩
    ·have HE:Hid (T9 own W wr g N { c with m:=F.1,wl:=F.2.reverse }):=by
      have es:F=(m,b :: r):=by
       rw[<-J,sett,hx];simp[I,h7]
      rw[es];exact H
     have q7:(e==7)=false:=by simpa using h7
     clear HI H J a3 O hk G I h6
     go_wp2_with fail
     (first|go_end0|(rw[Ml];go_end0)|(simp only[Ml,O4,Exit.inBlock,Exit.then];go_end0)|(trace_state;fail))
     exact⟨rfl,HE.out⟩
theorem qg {V:World}(u:List Nat) (h:T9 own W V g N c) (F:c.wl=u.reverse) (hm:∀b∈u,∃x,c.m b=some x/\(x.d.k=6\/x.d.k=3)) (G:u.length<=1000000000) (e:Int) (he:1<=e/\e<=7) :
  Kb 119 #[.pointer (some ⟨g,0,none⟩),.int .u8 e] V fun x w'=>x=.returned (.tuple #[])/\T9 own W w' g N { c with m:=(aP c.tot e c.m u).1,wl:=(aP c.tot e c.m u).2.reverse }:=by
 obtain⟨o,gs,qh,qw,v,csh,csw,J,M⟩:=h
 by_cases I:e=1\/e=2\/e=6
 ·have H:aP c.tot e c.m u=(c.m,u):=by unfold aP;rw[Kd I]
  rw[H];refine(wY J.t9 e I).mono ?_;rintro x w'⟨rfl,rfl⟩;refine⟨rfl,?_⟩;have:T9 own W w' g N c:=⟨o,gs,qh,qw,v,csh,csw,J,M⟩;simp only;rw[<-F];exact this
 ·have H:aP c.tot e c.m u=sett c.tot e c.m u:=by unfold aP;rw[IO I]
  rw[H];refine(sL u J.t9 F hm G e (by omega)).mono ?_;rintro x w'⟨rfl,O⟩;exact⟨rfl,O.step M⟩
end
section
variable {own:Nat->Nat} {W V:World} {g N:Nat} {c:CS}
theorem Gt (h:T9 own W V g N c) {b:Nat}{x:Px}(u:c.m b=some x) {n:Nat}(J:x.need c.tot=(n:Nat)) (F:n<=1000000000000000) {U:Nat}(M:Bp c.pr U) (I:U<=2147483647) (H:N<=4096) :
  Kb 154 #[.pointer (some ⟨g,0,none⟩),.pointer (some ⟨b,0,none⟩)] V fun e w'=>e=.returned (.bool (pD N c.pr x.d x.st n))/\T9 own W w' g N c:=by
 have G:=h;obtain⟨o,gs,qh,qw,v,csh,csw,O,k2⟩:=h;refine(wU O u J F M I H).mono ?_;rintro e w'⟨rfl,u⟩;exact⟨rfl,G.below u⟩
theorem GT (h:T9 own W V g N c) {b:Nat}{x:Px}(u:c.m b=some x) {n:Nat}(F:x.need c.tot=(n:Nat)) :
  Kb 156 #[.pointer (some ⟨g,0,none⟩),.pointer (some ⟨b,0,none⟩)] V fun e w'=>e=.returned (.int .i64 (n:Nat))/\T9 own W w' g N c:=by
 have:=li g b x c.tot V h.cc.2.2.1 (h.piece u);rw[F]at this;refine this.mono ?_;rintro e w'⟨rfl,u⟩;exact⟨rfl,h.below u⟩
theorem G5 (h:T9 own W V g N c) {U:Nat}(J:Bp c.pr U) (I:U<=2147483647) (n:Nat) (u:n<=1000000000000000) (H:N<=4096) (hl:c.pr.ar.length<=1000000000) (d:Dc) (hd:rt d=true) (G:d.k=7->c.pr.ar≠[]) :
  Kb 155 #[.pointer (some ⟨g,7,none⟩),d.v,.int .i64 (n:Nat)] V fun e w'=>e=.returned (.tuple #[])/\T9 own W w' g N { c with pr:=put N d n c.pr }:=by
 obtain⟨o,gs,qh,qw,v,csh,csw,F,M⟩:=h;refine(Bh F.pg J I n u H hl d hd G).mono ?_;rintro e w'⟨rfl,ha⟩;exact⟨rfl,(F.unpg ha).step M⟩
theorem zm (h:T9 own W V g N c) {U:Nat}(G:Bp c.pr U) (F:U<=2147483647) :
  Kb 115 #[.pointer (some ⟨g,7,none⟩)] V fun e w'=>e=.returned (.string ⟨c.pr.sk.out.toArray⟩)/\T9 own W w' g N { c with pr:={ c.pr with sk:=c.pr.sk.take } }:=by
 obtain⟨o,gs,qh,qw,v,csh,csw,u,H⟩:=h;refine(zq u.pg G F).mono ?_;rintro e w'⟨rfl,ha⟩;exact⟨rfl,(u.unpg ha).step H⟩
theorem GL (h:T9 own W V g N c) {b:Nat}{l:List Nat}(hl:c.hl=b :: l) (F:c.hl.length<=1000000000) :
  Kb 157 #[.pointer (some ⟨g,3,none⟩)] V fun e w'=>e=.returned (.tuple #[])/\T9 own W w' g N { c with hl:=l }:=by
 obtain⟨o,gs,qh,qw,v,csh,csw,u,G⟩:=h;refine(ou u.rh u.en.nf u.lab c.hl.length F u.c3 u.c4 (u.fz 4) (u.hl.trans hl)).mono ?_;rintro e w'⟨rfl,W1,rfl,ha⟩;refine⟨rfl,(u.rowH ha ?_).step G⟩;rw[hl];simp
theorem DU (h:T9 own W V g N c) (b:Nat) (F:c.hl.length<=1000000000) :
  Kb 151 #[.pointer (some ⟨g,3,none⟩),.pointer (some ⟨b,0,none⟩)] V fun e w'=>e=.returned (.tuple #[])/\T9 own W w' g N { c with hl:=c.hl++[b] }:=by
 obtain⟨o,gs,qh,qw,v,csh,csw,u,G⟩:=h;refine(qy u.rh u.en.nf u.lab c.hl.length F (by rw[u.hl];exact F) u.c3 u.c4 (u.fz 4) b).mono ?_;rintro e w'⟨rfl,W1,rfl,ha⟩;rw[u.hl]at ha;refine⟨rfl,(u.rowH ha ?_).step G⟩;simp
theorem DT (h:T9 own W V g N c) (b:Nat) (F:c.wl.length<=1000000000) :
  Kb 151 #[.pointer (some ⟨g,5,none⟩),.pointer (some ⟨b,0,none⟩)] V fun e w'=>e=.returned (.tuple #[])/\T9 own W w' g N { c with wl:=c.wl++[b] }:=by
 obtain⟨o,gs,qh,qw,v,csh,csw,u,G⟩:=h;refine(qy u.rw u.en.nf u.lab c.wl.length F (by rw[u.wl];exact F) u.c5 u.c6 (u.fz 6) b).mono ?_;rintro e w'⟨rfl,W1,rfl,ha⟩;rw[u.wl]at ha;refine⟨rfl,(u.rowW ha ?_).step G⟩;simp
theorem GN (h:T9 own W V g N c) (n:Nat):T9 own W (V.setCell ⟨g,1,none⟩ (.int .i64 (n:Nat))) g N { c with op:=n }:=by
 obtain⟨o,gs,qh,qw,v,csh,csw,u,F⟩:=h;refine⟨o,gs,qh,qw,v,csh,csw,u.setg 1 _ rfl u.hl.symm u.wl.symm rfl rfl,F.trans ((bV.set (P:=fun i=>i=2) u.lab 1 _).fz (by omega))⟩
theorem Db (h:T9 own W V g N c) (n:Int):T9 own W (V.setCell ⟨g,2,none⟩ (.int .i64 n)) g N { c with tot:=n }:=by
 obtain⟨o,gs,qh,qw,v,csh,csw,u,F⟩:=h;refine⟨o,gs,qh,qw,v,csh,csw,u.setg 2 _ rfl u.hl.symm u.wl.symm rfl rfl,F.trans ((bV.set (P:=fun i=>i=2) u.lab 2 _).fz (by omega))⟩
end
def IT (m:Pm) (tot:Int):List Nat->List Dc->Prop
 |[],[]=>True
 |b :: bs,d :: r=>(∃x,m b=some x/\x.d=d/\∃n:Nat,x.need tot=(n:Nat)/\n<=1000000000000000)/\IT m tot bs r
 |_,_=>False
theorem IT.len :∀{hl:List Nat}{v:List Dc},IT m tot hl v->hl.length=v.length
 |[],[],_=>rfl
 |b :: bs,d :: r,h=>by rw[List.length_cons,List.length_cons,h.2.len]
 |[],d :: r,h=>h.elim
 |b :: bs,[],h=>h.elim
theorem IR {d:Dc}(hd:rt d=true):pw d<=ud d+1000000:=by
 cases iy hd with
 |text t hq=>
  have u:=kK t;have F:=(iz hq).2;unfold pw ud;simp only[MG]
  split<;>omega
 |brk m hq=>
  have:=kW hq;simp[pw,ud];omega
 |beg m e hq=>simp[pw,ud]
 |blank=>simp[pw,ud]
 |hard=>simp[pw,ud]
 |empty=>simp[pw,ud]
 | «end»=>simp[pw,ud]
theorem og:∀(l:List Dc),(∀d∈l,rt d=true)->jc l<=pS l+1000000*l.length
 |[],_=>by simp[jc,pS]
 |d :: r,h=>by
  have F:=og r (fun x u=>h x (KA _ u));have G:=IR (h d Ko);have e:pS (d :: r)=ud d+pS r:=by simp[pS]
  rw[bX,e,List.length_cons];omega
theorem HI.it :∀{hl:List Nat}{v:List Dc},HI m tot hl v->jc v<=1000000000000000->IT m tot hl v
 |[],[],_,_=>trivial
 |b :: bs,d :: r,h,hp=>by
  obtain⟨⟨I,F,G⟩,H⟩:=h;have ht:=zR d r;have u:=hp;rw[bX]at u;exact⟨⟨_,F,rfl,(sc d r).n,ki G,by omega⟩,H.it (by omega)⟩
 |[],_ :: _,h,_=>h.elim
 |_ :: _,[],h,_=>h.elim
theorem HC.it :∀{hl:List Nat}{v:List Dc},HC m hl v->jc v<=1000000000000000->IT m tot hl v
 |[],[],_,_=>trivial
 |b :: bs,d :: r,h,hp=>by
  obtain⟨⟨I,st,F,G⟩,H⟩:=h;have ht:=zR d r;have u:=hp;rw[bX]at u;refine⟨⟨_,F,rfl,(sc d r).n,?_,by omega⟩,H.it (by omega)⟩;unfold Px.need;cases hl:jO d
  ·simp
  ·simp[G hl]
 |[],_ :: _,h,_=>h.elim
 |_ :: _,[],h,_=>h.elim
section
variable {own:Nat->Nat} {W:World} {g N:Nat} {c:CS}
theorem mg (h:T9 own W W g N c) {v0:List Dc}{G T C:Nat}{cl:Bool}(oK:IT c.m c.tot c.hl v0) (O:ef ⟨c.pr,v0,G,cl⟩ T C) (hT:T<=2147483647) (hC:C<=100000000) (hN:N<=4096) :
  Kb 114 #[.pointer (some ⟨g,0,none⟩)] W fun x w'=>x=.returned (.tuple #[])/\T9 own W w' g N { c with pr:=(fU N c.tot c.m c.pr c.hl).1,hl:=(fU N c.tot c.m c.pr c.hl).2 }:=by
 obtain⟨F,hF⟩:∃F,fU N c.tot c.m c.pr c.hl=F:=⟨_,rfl⟩;rw[hF];have ab:Hid (T9 own W W g N { c with pr:=c.pr,hl:=c.hl }/\fU N c.tot c.m c.pr c.hl=F/\(∃v,IT c.m c.tot c.hl v/\ef ⟨c.pr,v,G,cl⟩ T C)):=⟨h,hF,v0,oK,O⟩;have af:Hid (∀(V:World) (p:Pr) (hl:List Nat),T9 own W V g N { c with pr:=p,hl:=hl }->Kb 153 #[.pointer (some ⟨g,3,none⟩)] V fun x w'=>x=.returned (.tuple #[.pointer (pa hl.head?),.bool (!hl.isEmpty)])/\T9 own W w' g N { c with pr:=p,hl:=hl }):=fun V p hl u=>EC u
 clear h hF oK O
 go_enter func114,ntmps114
 go_wp2_with(go_at_call 153;refine(af.out _ _ _ ab.out.1).mono ?_;rintro x w1⟨rfl,h1⟩)
 have al:Hid (T9 own W w1 g N { c with pr:=c.pr,hl:=c.hl }/\fU N c.tot c.m c.pr c.hl=F/\(∃v,IT c.m c.tot c.hl v/\ef ⟨c.pr,v,G,cl⟩ T C)):=⟨h1,ab.out.2⟩;clear h1 ab
 go_loopw [2,3] (fun s2 s3 wr=>∃(p:Pr) (hl:List Nat),s2=.pointer (pa hl.head?)/\s3=.bool (!hl.isEmpty)/\Hid (T9 own W wr g N { c with pr:=p,hl:=hl }/\fU N c.tot c.m p hl=F/\(∃v,IT c.m c.tot hl v/\ef ⟨p,v,G,cl⟩ T C))) (fun _ _ wr=>lP wr g 4)
 case atStart=>exact⟨c.pr,c.hl,rfl,rfl,al.out⟩
 case round=>
  obtain⟨p,hl,rfl,rfl,HI⟩:=hrel;cases hl with
  |nil=>
   have HE:Hid (T9 own W wr g N { c with pr:=F.1,hl:=F.2 }):=by
    obtain⟨a1,I,_⟩:=HI.out;rw[<-I];exact a1
   clear HI
   go_wp2_with fail
   go_end0
   exact⟨rfl,HE.out⟩
  |cons b r=>
   obtain⟨a1,I,v,a3,a4⟩:=HI.out;cases v with
   |nil=>exact a3.elim
   |cons d v=>
    have H:=a3.len;obtain⟨⟨x,hx,rfl,n,hn,ai⟩,a5⟩:=a3;obtain⟨h7,⟨U,hU1,hU2⟩,hal,hvl,hst⟩:=a4.step N n;have ad:=a4.rt x.d Ko;have M:=a1.piece hx;have J:=ku (Gt a1 hx hn ai hU1 (by omega) hN)
    have ac:fU N c.tot c.m p (b :: r)=if pD N p x.d x.st n=true then fU N c.tot c.m (put N x.d n p) r else(p,b :: r):=by
     rw[fU,hx];simp only[hn,Lp]
    rw[ac]at I
    by_cases hc:pD N p x.d x.st n=true
    ·rw[Kd hc]at I;rw[hc]at J;have am:Hid (∀V,T9 own W V g N { c with pr:=p,hl:=b :: r }->Kb 156 #[.pointer (some ⟨g,0,none⟩),.pointer (some ⟨b,0,none⟩)] V fun e w'=>e=.returned (.int .i64 (n:Nat))/\Hid (T9 own W w' g N { c with pr:=p,hl:=b :: r })/\w'.heap[b]?=some (.cells (yS x) 255 (0,0))):=fun V u=>(GT u hx hn).mono fun e w' ⟨q1,q2⟩=>⟨q1,q2,q2.piece hx⟩
     have ap:Hid (∀V,T9 own W V g N { c with pr:=p,hl:=b :: r }->Kb 155 #[.pointer (some ⟨g,7,none⟩),x.d.v,.int .i64 (n:Nat)] V fun e w'=>e=.returned (.tuple #[])/\Hid (T9 own W w' g N { c with pr:=put N x.d n p,hl:=b :: r })/\w'.heap[b]?=some (.cells (yS x) 255 (0,0))):=fun V u=>(G5 u hU1 (by omega) n ai hN (Kh hal (by omega)) x.d ad h7).mono fun e w' ⟨q1,q2⟩=>⟨q1,q2,q2.piece hx⟩
     have an:=ku fun V (u:T9 own W V g N { c with pr:=put N x.d n p,hl:=b :: r })=>GL u rfl (by show(b :: r).length<=_;rw[H];exact Kh hvl (by omega))
     have HE:Hid (fU N c.tot c.m (put N x.d n p) r=F/\(∃v,IT c.m c.tot r v/\ef ⟨put N x.d n p,v,G,cl⟩ T C)):=⟨I,v,a5,hst⟩
     have aj:Hid (lP wr g 4=r.length+1):=by
      have:=a1.cc.2.2.2.1;show _=_;rw[iR this];rfl
     have ae:Hid (∀(V:World) (d:Dc) (ah:Int) (st:Bool) (nd:Int),V.heap[b]?=some (.cells (yS ⟨d,ah,st,nd⟩) 255 (0,0))->V.cell? ⟨b,0,none⟩=some (.int .u8 d.k)/\V.cell? ⟨b,1,none⟩=some (.string d.t)/\V.cell? ⟨b,2,none⟩=some (.int .i64 d.b)/\V.cell? ⟨b,3,none⟩=some (.int .i64 d.i)/\V.cell? ⟨b,4,none⟩=some (.bool d.e)):=fun V d ah st nd u=>⟨aa u rfl,aa u rfl,aa u rfl,aa u rfl,aa u rfl⟩
     obtain⟨⟨dk,dt,db,di,de⟩,ah,st,nd⟩:=x;clear HI a1 I a4 a5 hst H hvl hal hU1 h7 ac hc M ad
     dsimp only[Dc.v]at *
     go_wp2_with fail
     refine J.out.mono ?_;rintro e w2⟨rfl,h2⟩;have H2:=aK h2;have k2:=ae.out w2 _ _ _ _ (h2.piece hx)
     dsimp only at k2
     obtain⟨aq,ar,au,av,aw⟩:=k2;clear h2;have ak:=ku fun V (u:T9 own W V g N { c with pr:=p,hl:=b :: r })=>u.below (gt _ _).drew
     go_wp2_with fail
     go_region_held3 (fun w'=>w'.cell? ⟨b,0,none⟩=some (.int .u8 dk)/\w'.cell? ⟨b,1,none⟩=some (.string dt)/\w'.cell? ⟨b,2,none⟩=some (.int .i64 db)/\w'.cell? ⟨b,3,none⟩=some (.int .i64 di)/\w'.cell? ⟨b,4,none⟩=some (.bool de)) (first|(exact ae.out _ ⟨dk,dt,db,di,de⟩ _ _ _ (by assumption))|(exact⟨by assumption,by assumption,by assumption,by assumption,by assumption⟩)|go_keep) (first|(go_at_call 156;refine(am.out _ (by first|exact ak.out _ H2.out|exact H2.out)).mono ?_;rintro e w3⟨rfl,H3,k3⟩)|(go_at_call 155;refine(ap.out _ H3.out).mono ?_;rintro e w4⟨rfl,H4,k4⟩))
     all_goals(
      clear k3 k4 aq ar au av aw
      go_wp2_with fail
      refine(an.out _ H4.out).mono ?_;rintro e w5⟨rfl,h5⟩;have H5:=aK h5;clear h5
      go_wp2_with(go_at_call 153;refine(af.out _ _ _ H5.out).mono ?_;rintro x6 w6⟨rfl,h6⟩)
      refine⟨⟨_,r,rfl,rfl,h6,HE.out⟩,?_⟩;have:=h6.cc.2.2.2.1;rw[aj.out,iR this];simp)
    ·have ag:pD N p x.d x.st n=false:=by simpa using hc
     rw[IO hc]at I;rw[ag]at J;have HE:Hid (∀V,T9 own W V g N { c with pr:=p,hl:=b :: r }->T9 own W V g N { c with pr:=F.1,hl:=F.2 }):=fun V u=>by rw[<-I];exact u
     clear HI a1 I a4 a5 hst H hvl hal hU1 h7 ac hc ag M ad
     go_wp2_with fail
     refine J.out.mono ?_;rintro e w2⟨rfl,h2⟩;have H2:=aK h2;clear h2
     go_wp2_with fail
     go_end0
     exact⟨rfl,HE.out _ H2.out⟩
theorem jK {V:World}(h:T9 own W V g N c) {G:List Dc}{F T C:Nat}{cl:Bool}(oK:IT c.m c.tot c.hl G) (u:ef ⟨c.pr,G,F,cl⟩ T C) (J:T<=2147483647) (H:C<=100000000) (I:N<=4096) :
  Kb 114 #[.pointer (some ⟨g,0,none⟩)] V fun x w'=>x=.returned (.tuple #[])/\T9 own W w' g N { c with pr:=(fU N c.tot c.m c.pr c.hl).1,hl:=(fU N c.tot c.m c.pr c.hl).2 }:=by
 obtain⟨o,gs,qh,qw,v,csh,csw,M,O⟩:=h;refine(mg M.t9 oK u J H I).mono ?_;rintro x w'⟨rfl,ha⟩;exact⟨rfl,ha.step O⟩
end
theorem T9.box {own:Nat->Nat}{W V:World}{g N:Nat}{c:CS}(h:T9 own W V g N c) {k:Nat}{o:Obj}(u:W.heap[k]?=some o) (F:own k=0):V.heap[k]?=some o:=by
 obtain⟨I,gs,qh,qw,v,csh,csw,H,G⟩:=h;exact(G.blk k (ai u) F).1.trans u
theorem T9.newp {own:Nat->Nat}{W V W':World}{g N:Nat}{c:CS}(h:T9 own W V g N c) (x:Px) (F:Below V.heap.size V W') {nb:Nat}(u:V.heap.size<=nb) (G:W'.heap[nb]?=some (.cells (yS x) 255 (0,0))):T9 own W W' g N { c with m:=fj c.m nb x }:=by
 obtain⟨J,gs,qh,qw,v,csh,csw,H,I⟩:=h;obtain⟨o2,q1,q2,_⟩:=H.newp x F u G;exact⟨o2,gs,qh,qw,v,csh,csw,q1,I.trans q2⟩
theorem T9.tab {own:Nat->Nat}{W V:World}{g N:Nat}{c:CS}(h:T9 own W V g N c):ib V:=by
 obtain⟨G,gs,qh,qw,v,csh,csw,u,F⟩:=h;exact u.en.tab
theorem T9.size {own:Nat->Nat}{W V:World}{g N:Nat}{c:CS}(h:T9 own W V g N c):W.heap.size<=V.heap.size:=by
 obtain⟨G,gs,qh,qw,v,csh,csw,F,u⟩:=h;exact u.size
theorem fD {q:Nat}{H:Int}{I:ByteArray}{u G:Int}{F:Bool}(h:w.heap[q]?=some (.cells #[.int .u8 H,.string I,.int .i64 u,.int .i64 G,.bool F] 151 (0,0))):w.cell? ⟨q,0,none⟩=some (.int .u8 H)/\w.cell? ⟨q,1,none⟩=some (.string I)/\w.cell? ⟨q,2,none⟩=some (.int .i64 u)/\w.cell? ⟨q,3,none⟩=some (.int .i64 G)/\w.cell? ⟨q,4,none⟩=some (.bool F):=⟨aa h rfl,aa h rfl,aa h rfl,aa h rfl,aa h rfl⟩
theorem zA {own:Nat->Nat}{W:World}{g N:Nat}{c:CS}(h:T9 own W W g N c) (u:Int) (J:Nat) (lk:Bool) (hk:u=6/\J=c.op+1/\lk=true\/u=7/\J+1=c.op/\lk=false\/u=3/\J=c.op/\lk=true\/(u≠6/\u≠7/\u≠3)/\J=c.op/\lk=false) (bm:1<=u/\u<=7) (I:ByteArray) (F H:Int) (G:Bool) (bb:rt ⟨u,I,F,H,G⟩=true) (bj:c.op<=1000000000) (rl:List Nat) (an:c.wl=rl.reverse) (hm:∀b∈rl,∃x,c.m b=some x/\(x.d.k=6\/x.d.k=3)) (bi:rl.length<=900000000) (bn:c.hl.length<=900000000) (ap:(aP c.tot u c.m rl).2.length<=rl.length) :
  Kb 113 #[.pointer (some ⟨g,0,none⟩),.agg #[.int .u8 u,.string I,.int .i64 F,.int .i64 H,.bool G]] W fun e w'=>e=.returned (.tuple #[])/\∃nb,W.heap.size<=nb/\T9 own W w' g N { op:=J,tot:=wr (c.tot+(pw ⟨u,I,F,H,G⟩:Nat)),hl:=c.hl++[nb],wl:=(if lk=true then nb :: (aP c.tot u c.m rl).2 else(aP c.tot u c.m rl).2).reverse,m:=fj (aP c.tot u c.m rl).1 nb ⟨⟨u,I,F,H,G⟩,c.tot,false,0⟩,pr:=c.pr }:=by
 obtain⟨o,gs,qh,qw,v,csh,csw,k1,k2⟩:=h;obtain⟨W1,hW1⟩:∃W1,W.alloc (.cells #[.int .u8 u,.string I,.int .i64 F,.int .i64 H,.bool G] 151)=W1:=⟨_,rfl⟩;have af:Below W.heap.size W W1:=by rw[<-hW1];exact(gt _ _).alloc (ge _) _
 have aa:W1.heap[W.heap.size]?=some (.cells #[.int .u8 u,.string I,.int .i64 F,.int .i64 H,.bool G] 151 (0,0)):=by rw[<-hW1];exact am _ _
 have ag:o W.heap.size=0:=k1.en.nf _ (ge _);have H1:T9 o W1 W1 g N c:=(k1.below af).t9;have c1:(W.alloc (.cells #[.int .u8 u,.string I,.int .i64 F,.int .i64 H,.bool G] 151)).cell? ⟨g,1,none⟩=some (.int .i64 (c.op:Nat)):=by rw[hW1];exact H1.cc.2.1
 have f1:(W.alloc (.cells #[.int .u8 u,.string I,.int .i64 F,.int .i64 H,.bool G] 151)).frozen? ⟨g,1,none⟩=false:=by rw[hW1];exact H1.cc.2.2.2.2.2.1 1
 have bk:=H1.cc.2.2.2.2.2.2;have ba:g≠W.heap.size:=by have:=k1.lt;omega
 have bh:W.heap.size≠g:=MN ba
 have ax:Hid (∀V,T9 o W1 V g N { c with op:=J }->Kb 119 #[.pointer (some ⟨g,0,none⟩),.int .u8 u] V fun x w'=>x=.returned (.tuple #[])/\Hid (T9 o W1 w' g N { c with op:=J,m:=(aP c.tot u c.m rl).1,wl:=(aP c.tot u c.m rl).2.reverse })/\w'.heap[W.heap.size]?=some (.cells #[.int .u8 u,.string I,.int .i64 F,.int .i64 H,.bool G] 151 (0,0))/\w'.cell? ⟨g,2,none⟩=some (.int .i64 c.tot)):=fun V M=>by
  refine(qg rl M an hm (by omega) u (by omega)).mono ?_;rintro x w'⟨rfl,O⟩;exact⟨rfl,O,O.box aa ag,O.cc.2.2.1⟩
 have au:=ku fun V W' (M:T9 o W1 V g N { c with op:=J,m:=(aP c.tot u c.m rl).1,wl:=(aP c.tot u c.m rl).2.reverse }) (hb:Below V.heap.size V W') (O:W'.heap[V.heap.size]?=some (.cells #[.int .u8 u,.string I,.int .i64 F,.int .i64 H,.bool G,.int .i64 c.tot,.bool false,.int .i64 0] 255 (0,0)))=>M.newp ⟨⟨u,I,F,H,G⟩,c.tot,false,0⟩ hb (ge _) O
 have aq:Hid (∀(V:World) (m:Pm),T9 o W1 V g N { c with op:=J,m:=m,wl:=(aP c.tot u c.m rl).2.reverse }->Kb 150 #[.agg #[.int .u8 u,.string I,.int .i64 F,.int .i64 H,.bool G]] V fun e w'=>e=.returned (.int .i64 ((pw ⟨u,I,F,H,G⟩:Nat):Int))/\Hid (T9 o W1 w' g N { c with op:=J,m:=m,wl:=(aP c.tot u c.m rl).2.reverse })/\w'.heap[W.heap.size]?=some (.cells #[.int .u8 u,.string I,.int .i64 F,.int .i64 H,.bool G] 151 (0,0))/\w'.cell? ⟨g,2,none⟩=some (.int .i64 c.tot)/\w'.frozen? ⟨g,2,none⟩=false/\g<w'.heap.size):=fun V m M=>by
  refine(nY ⟨u,I,F,H,G⟩ bb V M.tab).mono ?_;rintro e w'⟨rfl,hb⟩;have O:=M.below hb;exact⟨rfl,O,O.box aa ag,O.cc.2.2.1,O.cc.2.2.2.2.2.1 2,O.cc.2.2.2.2.2.2⟩
 have al:Hid (∀(V:World) (m:Pm) (n:Int),T9 o W1 V g N { c with op:=J,m:=m,wl:=(aP c.tot u c.m rl).2.reverse }->T9 o W1 (V.setCell ⟨g,2,none⟩ (.int .i64 n)) g N { c with op:=J,tot:=n,m:=m,wl:=(aP c.tot u c.m rl).2.reverse }/\(V.setCell ⟨g,2,none⟩ (.int .i64 n)).heap[W.heap.size]?=some (.cells #[.int .u8 u,.string I,.int .i64 F,.int .i64 H,.bool G] 151 (0,0))):=fun V m n M=>by
  have:=Db M n;exact⟨this,this.box aa ag⟩
 have av:Hid (∀(V:World) (m:Pm) (n:Int) (b:Nat),T9 o W1 V g N { c with op:=J,tot:=n,m:=m,wl:=(aP c.tot u c.m rl).2.reverse }->Kb 151 #[.pointer (some ⟨g,3,none⟩),.pointer (some ⟨b,0,none⟩)] V fun e w'=>e=.returned (.tuple #[])/\Hid (T9 o W1 w' g N { c with op:=J,tot:=n,hl:=c.hl++[b],m:=m,wl:=(aP c.tot u c.m rl).2.reverse })/\w'.heap[W.heap.size]?=some (.cells #[.int .u8 u,.string I,.int .i64 F,.int .i64 H,.bool G] 151 (0,0))):=fun V m n b M=>by
  refine(DU M b (by show c.hl.length<=_;omega)).mono ?_;rintro x w'⟨rfl,O⟩;exact⟨rfl,O,O.box aa ag⟩
 have aw:Hid (∀(V:World) (m:Pm) (n:Int) (hl:List Nat) (b:Nat),T9 o W1 V g N { c with op:=J,tot:=n,hl:=hl,m:=m,wl:=(aP c.tot u c.m rl).2.reverse }->Kb 151 #[.pointer (some ⟨g,5,none⟩),.pointer (some ⟨b,0,none⟩)] V fun e w'=>e=.returned (.tuple #[])/\T9 o W1 w' g N { c with op:=J,tot:=n,hl:=hl,m:=m,wl:=(b :: (aP c.tot u c.m rl).2).reverse }):=fun V m n hl b M=>by
  have:=DT M b (by show(aP c.tot u c.m rl).2.reverse.length<=_;rw[KZ];omega);rw[Ll];exact this
 have ah:Hid (∀(V:World) (cc:CS),T9 o W1 V g N cc->T9 own W V g N cc):=fun V cc M=>M.step (k2.trans (Fz.of_below af))
 have ay:=ku fun V cc (M:T9 o W1 V g N cc)=>Kh af.size M.size
 have az:=ku hW1;obtain⟨bc,bd,be,bf,bg⟩:=fD aa
 have ar:Hid (∀V,Kb 152 #[.int .u8 u] V fun e w'=>e=.returned (.bool lk)/\w'=V):=fun V=>by
  have:=nk u V;rw[show decide (u=6\/u=3)=lk by rcases hk with⟨rfl,_,rfl⟩|⟨rfl,_,rfl⟩|⟨rfl,_,rfl⟩|⟨_,_,rfl⟩<;>first|rfl|exact Kr (by omega)]at this;exact this
 have ac:Hid (∀V:World,V.heap[W.heap.size]?=some (.cells #[.int .u8 u,.string I,.int .i64 F,.int .i64 H,.bool G] 151 (0,0))->V.cell? ⟨W.heap.size,0,none⟩=some (.int .u8 u)/\V.cell? ⟨W.heap.size,1,none⟩=some (.string I)/\V.cell? ⟨W.heap.size,2,none⟩=some (.int .i64 F)/\V.cell? ⟨W.heap.size,3,none⟩=some (.int .i64 H)/\V.cell? ⟨W.heap.size,4,none⟩=some (.bool G)):=fun V M=>fD M
 have ak:∀n:Nat,T9 o W1 (W1.setCell ⟨g,1,none⟩ (.int .i64 (n:Nat))) g N { c with op:=n }:=GN H1;clear hW1 k1 k2 an hm aa af ap
 generalize hP:pw ⟨u,I,F,H,G⟩=P at *
 rcases hk with⟨hk,ho,rfl⟩|⟨hk,ho,rfl⟩|⟨hk,ho,rfl⟩|⟨hk,ho,rfl⟩
 have w6:IntKind.i64.wrap ((c.op:Int)+1)=((J:Nat):Int):=by rw[Ki];omega
 have ab:=aK (ak J)
 rotate_left
 have w7:IntKind.i64.wrap ((c.op:Int)-1)=((J:Nat):Int):=by rw[Ki];omega
 have ab:=aK (ak J)
 rotate_left
 have ab:Hid (T9 o W1 W1 g N { c with op:=J }):=by rw[ho];exact H1
 rotate_left
 have ab:Hid (T9 o W1 W1 g N { c with op:=J }):=by rw[ho];exact H1
 rotate_left
 all_goals(
  have q1:(u==6)=decide (u=6):=rfl;have q2:(u==7)=decide (u=7):=rfl
  first
  |rw[Ku (by omega)]at q1
  |rw[Kr (by omega)]at q1
  first
  |rw[Ku (by omega)]at q2
  |rw[Kr (by omega)]at q2
  clear ak H1 hk ho)
 all_goals(
  go_enter func113,ntmps113
  go_wp2_with fail
  rw[az.out];refine(ax.out _ ab.out).mono ?_;rintro e w2⟨rfl,H2,b2,t2⟩;have aj:=aK b2;obtain⟨y0,y1,y2,y3,y4⟩:=ac.out _ b2;clear bc bd be bf bg c1 f1 ab b2
  go_wp2_with fail
  go_region
  all_goals(
   obtain⟨W3,ad⟩:∃W3,W3=(w2.alloc (.cells #[.int .u8 u,.string I,.int .i64 F,.int .i64 H,.bool G,.int .i64 c.tot,.bool false,.int .i64 0] 255)).drew:=⟨_,rfl⟩
   have H3:Hid (T9 o W1 W3 g N { c with op:=J,m:=fj (aP c.tot u c.m rl).1 w2.heap.size ⟨⟨u,I,F,H,G⟩,c.tot,false,0⟩,wl:=(aP c.tot u c.m rl).2.reverse }/\W.heap.size<=w2.heap.size):=by
    rw[ad];exact⟨au.out _ _ H2.out ((gt _ _).alloc (ge _) _).drew (am _ _),ay.out _ _ H2.out⟩
   have t3:W3.cell? ⟨g,2,none⟩=some (.int .i64 c.tot):=H3.out.1.cc.2.2.1;have f3:W3.frozen? ⟨g,2,none⟩=false:=H3.out.1.cc.2.2.2.2.2.1 2;have g3:g<W3.heap.size:=H3.out.1.cc.2.2.2.2.2.2
   have b3:W3.heap[W.heap.size]?=some (.cells #[.int .u8 u,.string I,.int .i64 F,.int .i64 H,.bool G] 151 (0,0)):=by
    rw[ad];exact(((gt w2.heap.size w2).alloc (ge _) _).drew.block _ (ai aj.out)).trans aj.out
   rw[<-ad];clear ad H2 t2 y0 y1 y2 y3 y4;obtain⟨y0,y1,y2,y3,y4⟩:=ac.out _ b3;obtain⟨nb,hnb⟩:∃nb,w2.heap.size=nb:=⟨_,rfl⟩;rw[hnb]at H3 ⊢;clear hnb aj b3
   go_wp2_with fail
   go_region_with (first|(go_at_call 150;refine(aq.out _ _ (by first|exact H3.out.1.below (gt _ _).drew|exact H3.out.1)).mono ?_;rintro e w4⟨rfl,H4,b4,t4,f4,g4⟩))
   all_goals(
    obtain⟨W5,ae⟩:∃W5,W5=w4.setCell ⟨g,2,none⟩ (.int .i64 (IntKind.i64.wrap (c.tot+(P:Nat)))):=⟨_,rfl⟩
    have H5:Hid (T9 o W1 W5 g N { c with op:=J,tot:=IntKind.i64.wrap (c.tot+(P:Nat)),m:=fj (aP c.tot u c.m rl).1 nb ⟨⟨u,I,F,H,G⟩,c.tot,false,0⟩,wl:=(aP c.tot u c.m rl).2.reverse }):=by
     rw[ae];exact(al.out _ _ _ H4.out).1
    have b5:W5.heap[W.heap.size]?=some (.cells #[.int .u8 u,.string I,.int .i64 F,.int .i64 H,.bool G] 151 (0,0)):=by
     rw[ae];exact(al.out _ _ _ H4.out).2
    rw[<-ae];clear ae H4 b4 t4 f4 g4 t3 f3 g3 y0 y1 y2 y3 y4;obtain⟨y0,y1,y2,y3,y4⟩:=ac.out _ b5;clear b5
    go_wp2_with fail
    refine(av.out _ _ _ nb H5.out).mono ?_;rintro e w6⟨rfl,H6,b6⟩;clear y0 y1 y2 y3 y4;obtain⟨y0,y1,y2,y3,y4⟩:=ac.out _ b6;clear b6
    go_wp2_with fail
    refine(ar.out _).mono ?_;rintro e w7⟨rfl,rfl⟩
    go_wp2_with fail
    first
    | (refine(aw.out _ _ _ _ nb H6.out).mono ?_;rintro e w8⟨rfl,h8⟩;rw[Ll]at h8;have H8:=aK h8;clear h8;go_wp2_with fail;go_end0;refine⟨rfl,nb,H3.out.2,?_⟩;exact ah.out _ _ H8.out)
    | (go_end0;refine⟨rfl,nb,H3.out.2,?_⟩;exact ah.out _ _ H6.out))))
