import Derived.Test.YtcmbkeghnmgbfaaGreatDoorM07
set_option linter.all false
set_option maxHeartbeats 2000000
set_option maxRecDepth 100000
namespace Go.Proofs.YtcmbkeghnmgbfaaGreatDoor.Lx
open Go.Proofs.Tryz
open Go.RowKit
variable {s o:ByteArray}{p g f b k:Nat}{w0 V W:World}{T0 new:List Tk}
theorem mj {S:Nat->Prop}(h:aR S w0 W g s o T0 p 5 b f new) (hs:s.size<=2147483647) :
  Kb 62 #[.pointer (some ⟨g,0,none⟩),.int .i32 (xp s p),.string (s.extract p (xq s p))] W fun e w'=>aT S w0 g s o T0 p e w':=by
 obtain⟨f1,f2,f3,f4,f5,f6⟩:=h.facts
 have J:b<s.size:=by
  cases h.ms with
  |block h1 _ _=>omega
 have c5:W.cell? ⟨g,5,none⟩=some (.int .i64 5):=by
  obtain⟨vt,vo,vs,h1,h2⟩:=h.lq;exact aa h1 rfl
 by_cases H:p<s.size
 ·have q1:(xp s p == -1)=false:=by rw[Kk,aL H];omega
  by_cases O:av s p=125
  ·have G:xp s p=125:=by rw[aL H];exact(co s p 125 (by decide)).2 O
   have ac:Hid (Kb 103 #[.pointer (some ⟨g,0,none⟩),.string (s.extract p (xq s p)),.int .u8 8] W fun e w'=>aT S w0 g s o T0 p e w'):=by
    obtain⟨M,a2,a3⟩:=uj h.ms H O;exact ls (kk:=8) h h.lq H J hs (.inr (.inr rfl)) (fun I=>⟨M,a2 I⟩) (fun I=>⟨M,a3 I⟩)
   rw[G];clear h O q1 G
   go_enter func62,ntmps62
   go_wp2_with fail
   refine aN 0 rfl ?_
   go_wp2_with fail
   go_step3
   refine⟨rfl,?_⟩
   go_wp2_with(first|(go_at_call 103;refine ac.out.mono ?_;intro e w1 hz;obtain⟨E,k',b',f',p',F,rfl,u⟩:=hz;have HF:Hid (aT S w0 g s o T0 p (.returned (.int .i64 E)) w1):=⟨E,k',b',f',p',F,rfl,u⟩;clear u))
   simp only[Exit.jump]
   go_ret
   exact HF.out
  ·have G:(xp s p==125)=false:=by rw[Kk,aL H];exact fun e=>O ((co s p 125 (by decide)).1 e)
   have ab:Hid (Kb 64 #[.pointer (some ⟨g,0,none⟩),.string (s.extract p (xq s p))] W fun e w'=>aT S w0 g s o T0 p e w'):=by
    obtain⟨M,a2,a3⟩:=Cm h.ms H O;exact dZ (kk:=8) h h.lq H J (by omega) (by decide) (fun I=>⟨M,a2 I⟩) a3
   clear h O
   go_enter func62,ntmps62
   go_wp2_with fail
   refine aN 0 rfl ?_
   go_wp2_with fail
   go_step3
   refine⟨rfl,?_⟩
   go_wp2_with(first|(go_at_call 64;refine ab.out.mono ?_;intro e w1 hz;obtain⟨E,k',b',f',p',F,rfl,u⟩:=hz;have HF:Hid (aT S w0 g s o T0 p (.returned (.int .i64 E)) w1):=⟨E,k',b',f',p',F,rfl,u⟩;clear u))
   simp only[Exit.jump]
   go_ret
   exact HF.out
 ·have q1:xp s p=-1:=fc (by omega)
  have HF:Hid (aT S w0 g s o T0 p (.returned (.int .i64 101)) W):=by
   have ad:p=s.size:=by omega
   obtain⟨M,a2⟩:=lR (s:=s) (b:=b) (by rw[<-ad];exact h.ms);exact aT.bad (E:=101) h h.lq M (by decide) a2 (by decide) J rfl (fun I=>absurd I H)
  rw[q1];clear h H q1
  go_enter func62,ntmps62
  go_wp2_with fail
  refine aN 0 rfl ?_
  go_wp2_with fail
  go_step3
  refine⟨rfl,?_⟩
  go_wp2_with fail
  simp only[Exit.jump]
  go_ret
  exact HF.out
theorem oH {S:Nat->Prop}(h:aR S w0 W g s o T0 p 7 b f new) (hs:s.size<=2147483647) :
  Kb 62 #[.pointer (some ⟨g,0,none⟩),.int .i32 (xp s p),.string (s.extract p (xq s p))] W fun e w'=>aT S w0 g s o T0 p e w':=by
 obtain⟨f1,f2,f3,f4,f5,f6⟩:=h.facts
 have M:b<s.size:=by
  cases h.ms with
  |char h1 h2=>
   have:=h.pd;have ae:=ia this;omega
 have c5:W.cell? ⟨g,5,none⟩=some (.int .i64 7):=by
  obtain⟨vt,vo,vs,h1,h2⟩:=h.lq;exact aa h1 rfl
 by_cases O:s.size<=p\/av s p=10
 ·have I:=ku (cV W true ⟨fun _=>O,fun _=>rfl⟩)
  have HF:Hid (aT S w0 g s o T0 p (.returned (.int .i64 101)) W):=by
   obtain⟨a1,a2,a3,_⟩:=gS h.ms (.inl rfl) f4 (fun hx=>O.resolve_left (by omega));exact aT.bad (E:=101) h h.lq a1 (by decide) a2 (by decide) M rfl a3
  clear h O
  go_enter func62,ntmps62
  go_wp2_with fail
  refine aN 1 rfl ?_
  go_wp2_with fail
  go_step3
  refine⟨rfl,?_⟩
  go_wp2_with(first|(go_at_call 70;refine I.out.mono ?_;rintro e w1⟨rfl,u⟩;replace u:=u.symm;subst u))
  simp only[Exit.jump]
  go_ret
  exact HF.out
 ·have hp:p<s.size:=by omega
  have G:av s p≠10:=fun e=>O (.inr e)
  have I:=ku (cV W false ⟨fun h=>(by cases h),fun h=>absurd h O⟩)
  have z5:W.frozen? ⟨g,5,none⟩=false:=by
   obtain⟨vt,vo,vs,h1,h2⟩:=h.lq;exact h1.frozen 5
  by_cases H:eI s p=true
  ·have J:=ku (kr hp W true H.symm)
   have HF:Hid (aT S w0 g s o T0 p (.returned (.int .i64 102)) W):=by
    obtain⟨a1,a2⟩:=rQ h.ms hp G (.inl H);exact aT.bad (E:=102) h h.lq a1 (by decide) a2 (by decide) M rfl (fun _=>cG (by decide))
   clear h O G H
   go_enter func62,ntmps62
   go_wp2_with fail
   refine aN 1 rfl ?_
   go_wp2_with fail
   go_step3
   refine⟨rfl,?_⟩
   go_wp2_with(first|(go_at_call 70;refine I.out.mono ?_;rintro e w1⟨rfl,u⟩;replace u:=u.symm;subst u)|(go_at_call 102;refine J.out.mono ?_;rintro e w1⟨rfl,u⟩;replace u:=u.symm;subst u))
   simp only[Exit.jump]
   go_ret
   exact HF.out
  ·have F:eI s p=false:=by simpa using H
   have J:=ku (kr hp W false F.symm)
   by_cases hq:av s p=39
   ·have ad:(xp s p==39)=true:=by rw[LM,aL hp];exact(co s p 39 (by decide)).2 hq
    have HF:Hid (aT S w0 g s o T0 p (.returned (.int .i64 102)) W):=by
     obtain⟨a1,a2⟩:=rQ h.ms hp G (.inr hq);exact aT.bad (E:=102) h h.lq a1 (by decide) a2 (by decide) M rfl (fun _=>cG (by decide))
    clear h O G H F hq
    go_enter func62,ntmps62
    go_wp2_with fail
    refine aN 1 rfl ?_
    go_wp2_with fail
    go_step3
    refine⟨rfl,?_⟩
    go_wp2_with(first|(go_at_call 70;refine I.out.mono ?_;rintro e w1⟨rfl,u⟩;replace u:=u.symm;subst u)|(go_at_call 102;refine J.out.mono ?_;rintro e w1⟨rfl,u⟩;replace u:=u.symm;subst u))
    simp only[Exit.jump]
    go_ret
    exact HF.out
   ·have ad:(xp s p==39)=false:=by rw[Kk,aL hp];exact fun e=>hq ((co s p 39 (by decide)).1 e)
    have ac:Hid (Kb 64 #[.pointer (some ⟨g,0,none⟩),.string (s.extract p (xq s p))] (W.setCell ⟨g,5,none⟩ (.int .i64 8)) fun e w'=>aT S w0 g s o T0 p e w'):=by
     obtain⟨a1,a2⟩:=Fc h.ms hp G F hq;refine dZ (kk:=5) (k':=8) h ?_ hp M (by omega) (by decide) (fun hx=>absurd hx a2) (fun _=>a1);obtain⟨vt,vo,vs,h1,h2⟩:=h.lq;exact⟨vt,vo,vs,ab h1 5 _,h2.set h1 5 _⟩
    clear h O G H F hq
    go_enter func62,ntmps62
    go_wp2_with fail
    refine aN 1 rfl ?_
    go_wp2_with fail
    go_step3
    refine⟨rfl,?_⟩
    go_wp2_with(first|(go_at_call 70;refine I.out.mono ?_;rintro e w1⟨rfl,u⟩;replace u:=u.symm;subst u)|(go_at_call 102;refine J.out.mono ?_;rintro e w1⟨rfl,u⟩;replace u:=u.symm;subst u)|(go_at_call 64;refine ac.out.mono ?_;intro e w1 hz;obtain⟨E,k',b',f',p',new',rfl,hz'⟩:=hz;have HF:Hid (aT S w0 g s o T0 p (.returned (.int .i64 E)) w1):=⟨E,k',b',f',p',new',rfl,hz'⟩;clear hz'))
    simp only[Exit.jump]
    go_ret
    exact HF.out
theorem mi {S:Nat->Prop}(h:aR S w0 W g s o T0 p 8 b f new) (hs:s.size<=2147483647) :
  Kb 62 #[.pointer (some ⟨g,0,none⟩),.int .i32 (xp s p),.string (s.extract p (xq s p))] W fun e w'=>aT S w0 g s o T0 p e w':=by
 obtain⟨f1,f2,f3,f4,f5,f6⟩:=h.facts
 have I:b<s.size:=by
  cases h.ms with
  |quote h1 _ _=>omega
 have c5:W.cell? ⟨g,5,none⟩=some (.int .i64 8):=by
  obtain⟨vt,vo,vs,h1,h2⟩:=h.lq;exact aa h1 rfl
 by_cases G:s.size<=p\/av s p=10
 ·have F:=ku (cV W true ⟨fun _=>G,fun _=>rfl⟩)
  have M:Hid (aT S w0 g s o T0 p (.returned (.int .i64 101)) W):=by
   obtain⟨O,a2,a3,_⟩:=gS h.ms (.inr rfl) f4 (fun hx=>G.resolve_left (by omega));exact aT.bad (E:=101) h h.lq O (by decide) a2 (by decide) I rfl a3
  clear h G
  go_enter func62,ntmps62
  go_wp2_with fail
  refine aN 2 rfl ?_
  go_wp2_with fail
  go_step3
  refine⟨rfl,?_⟩
  go_wp2_with(first|(go_at_call 70;refine F.out.mono ?_;rintro e w1⟨rfl,u⟩;replace u:=u.symm;subst u))
  simp only[Exit.jump]
  go_ret
  exact M.out
 ·have hp:p<s.size:=by omega
  have H:av s p≠10:=fun e=>G (.inr e)
  have F:=ku (cV W false ⟨fun h=>(by cases h),fun h=>absurd h G⟩)
  by_cases J:av s p=39
  ·have ac:(xp s p != 39)=false:=by rw[bne_eq_false_iff_eq,aL hp];exact(co s p 39 (by decide)).2 J
   have ab:Hid (Kb 103 #[.pointer (some ⟨g,0,none⟩),.string (s.extract p (xq s p)),.int .u8 5] W fun e w'=>aT S w0 g s o T0 p e w'):=by
    obtain⟨O,a2,a3⟩:=sY h.ms hp J;exact ls (kk:=5) h h.lq hp I hs (.inr (.inl rfl)) (fun hx=>absurd hx a3) (fun hx=>⟨O,a2⟩)
   clear h G H J
   go_enter func62,ntmps62
   go_wp2_with fail
   refine aN 2 rfl ?_
   go_wp2_with fail
   go_step3
   refine⟨rfl,?_⟩
   go_wp2_with(first|(go_at_call 70;refine F.out.mono ?_;rintro e w1⟨rfl,u⟩;replace u:=u.symm;subst u)|(go_at_call 103;refine ab.out.mono ?_;intro e w1 hz;obtain⟨E,k',b',f',p',new',rfl,hz'⟩:=hz;have M:Hid (aT S w0 g s o T0 p (.returned (.int .i64 E)) w1):=⟨E,k',b',f',p',new',rfl,hz'⟩;clear hz'))
   simp only[Exit.jump]
   go_ret
   exact M.out
  ·have ac:(xp s p != 39)=true:=by rw[bne_iff_ne,aL hp];exact fun e=>J ((co s p 39 (by decide)).1 e)
   have M:Hid (aT S w0 g s o T0 p (.returned (.int .i64 102)) W):=by
    obtain⟨O,a2⟩:=xh h.ms hp H J;exact aT.bad (E:=102) h h.lq O (by decide) a2 (by decide) I rfl (fun _=>cG (by decide))
   clear h G H J
   go_enter func62,ntmps62
   go_wp2_with fail
   refine aN 2 rfl ?_
   go_wp2_with fail
   go_step3
   refine⟨rfl,?_⟩
   go_wp2_with(first|(go_at_call 70;refine F.out.mono ?_;rintro e w1⟨rfl,u⟩;replace u:=u.symm;subst u))
   simp only[Exit.jump]
   go_ret
   exact M.out
theorem gw (s:ByteArray) (p:Nat) (h:p<=s.size):s.extract p p=ByteArray.empty:=by
 have:=ag s p p h;exact aU _ _ (by rw[this];show p-p=0;omega) (fun j u=>by omega)
theorem cU {S:Nat->Prop}(h:aR S w0 V g s o T0 p 0 p f new) (F:p<s.size) (hs:s.size<=2147483647) (hc:av s p=10\/bJ (av s p)=true) :
  Kb 72 #[.pointer (some ⟨g,0,none⟩),.int .i32 (xp s p),.string (s.extract p (xq s p))] V fun e w'=>aT S w0 g s o T0 p e w':=by
 obtain⟨f1,f2,J,f4,f5,f6⟩:=h.facts;obtain⟨q1,q2,q3,q4⟩:=pF h.pd;have O:=cr F
 have M:av s p<128:=by
  rcases hc with hc|hc
  ·omega
  ·exact Co hc
 have hd:=(bH s p M).1;have I:=h.lq;rw[gw s p (by omega)]at I;refine(ya I (by omega) q2 J q1 (by omega) (xp s p) _ rfl).mono ?_;rintro e w'⟨rfl,H⟩;rw[O]at H q1
 by_cases u:av s p=10
 ·have G:xp s p=10:=by rw[aL F];exact(co s p 10 (by decide)).2 u
  rw[Kd G]at H;refine⟨0,0,p+dw s p,f+1,p+dw s p,new,rfl,?_,q1,q1,ge _,.inl ⟨rfl,F,rfl,?_,.none rfl⟩⟩
  ·rw[gw s _ (by omega)];exact H
  ·rw[hd];exact .feed h.told F u
 ·have G:¬xp s p=10:=by rw[aL F];exact fun e=>u ((co s p 10 (by decide)).1 e)
  rw[IO G]at H;refine⟨0,0,p+dw s p,f,p+dw s p,new,rfl,?_,q1,q1,ge _,.inl ⟨rfl,F,rfl,?_,.none rfl⟩⟩
  ·rw[gw s _ (by omega)];exact H
  ·rw[hd];exact .blank h.told F u (hc.resolve_left u)
theorem bx {S:Nat->Prop}(h:aR S w0 V g s o T0 p k b f new) (hs:s.size<=2147483647) {u kk:Nat}(hb:b<s.size) (I:ak s b=u) (H:u≠0) (O:aC s b u=(p,0)) (hk:kk=(bh s u b p f).k) :
  Kb 65 #[.pointer (some ⟨g,0,none⟩),.int .u8 kk] V fun e w'=>e=.returned (.tuple #[])/\(p<s.size->aR S w0 w' g s o T0 p 0 p 0 (new++[bh s u b p f]))/\(s.size<=p->aT S w0 g s o T0 p (.returned (.int .i64 0)) w'):=by
 obtain⟨f1,f2,f3,f4,f5,f6⟩:=h.facts;have hw:=iV (s:=s) (b:=b) (by rw[I];exact H);have h5:=eH s b u p hb I H O
 have M:kk=7↔u=7:=by
  rw[hk];show(if u=1/\ky (s.extract b p)=true then 2 else u)=7↔u=7
  split
  ·omega
  ·exact Iff.rfl
 have et:(⟨kk,b,if kk=7 then aV s p else p,f⟩:Tk)=bh s u b p f:=by
  have e1:(if kk=7 then aV s p else p)=if u=7 then aV s p else p:=by
   by_cases G:u=7
   ·rw[Kd G,Kd (M.2 G)]
   ·rw[IO G,IO (fun e=>G (M.1 e))]
  rw[e1,hk];rfl
 refine(na h.lq kk (by omega) f1 f3 h.pd (by rw[Lj];omega) (fun _=>⟨h5.1,hw.2⟩)).mono ?_;rintro e w'⟨rfl,hq⟩;rw[et]at hq
 have F:Lq S w0 w' g 0 p (pL s p) (pC s p) 0 (s.extract p p) o ((new++[bh s u b p f]).map (tv s)):=by
  rw[gw s p f4,Lf];exact hq
 obtain⟨t1,t2⟩:=fp h.told hb I H O;refine⟨rfl,fun J=>⟨F,?_,.none rfl,h.pd⟩,fun J=>?_⟩
 ·rw[<-Ks];exact t1 (.inl J)
 ·exact⟨0,0,p,0,p,new++[bh s u b p f],rfl,F,h.pd,h.pd,ge _,.inr (.inl ⟨rfl,J,by rw[<-Ks];exact t2 (by omega)⟩)⟩
theorem aT.ends {S:Nat->Prop}(h:aR S w0 V g s o T0 p 0 p f new) (u:s.size<=p):aT S w0 g s o T0 p (.returned (.int .i64 0)) V:=by
 refine⟨0,0,p,f,p,new,rfl,h.lq,h.pd,h.pd,ge _,.inr (.inl ⟨rfl,u,?_⟩)⟩;rw[h.told.scn,oS s p f u,KP]
theorem aR.setK {S:Nat->Prop}(h:aR S w0 V g s o T0 p k b f new) (k':Nat):Lq S w0 (V.setCell ⟨g,5,none⟩ (.int .i64 k')) g k' b (pL s b) (pC s b) f (s.extract b p) o (new.map (tv s)):=by
 obtain⟨vt,vo,vs,u,F⟩:=h.lq;exact⟨vt,vo,vs,ab u 5 _,F.set u 5 _⟩
theorem aR.cell {S:Nat->Prop}{w0 V:World}{g:Nat}{s o:ByteArray}{T0:List Tk}{p k b f:Nat}{new:List Tk}(h:aR S w0 V g s o T0 p k b f new):V.cell? ⟨g,5,none⟩=some (.int .i64 k)/\V.frozen? ⟨g,5,none⟩=false/\g<V.heap.size:=by
 obtain⟨vt,vo,vs,u,F⟩:=h.lq;exact⟨aa u rfl,u.frozen 5,ai u⟩
theorem aT.noTok {S:Nat->Prop}(h:aR S w0 V g s o T0 p 0 p f new) (G:p<s.size) (u:av s p≠10) (F:bJ (av s p)=false) (H:nF s p=0):aT S w0 g s o T0 p (.returned (.int .i64 100)) (V.setCell ⟨g,5,none⟩ (.int .i64 0)):=
 ⟨100,0,p,f,p,new,rfl,h.setK 0,h.pd,h.pd,ge _,.inr (.inr ⟨by decide,p,wH h.told G u F (Cp G H),fun _=>cG (by decide),rfl⟩)⟩
theorem kt {S:Nat->Prop}(h:aR S w0 V g s o T0 p 0 p f new) (u:p<s.size) (M:s.size<=2147483647) {k':Nat}(G:nF s p=k') (F:k'≠0) :
  Kb 64 #[.pointer (some ⟨g,0,none⟩),.string (s.extract p (xq s p))] (V.setCell ⟨g,5,none⟩ (.int .i64 k')) fun e w'=>aT S w0 g s o T0 p e w':=by
 obtain⟨I,J⟩:=Hx u G F;exact dZ (kk:=1) h (h.setK k') u u (by omega) (by decide) (fun H=>absurd H J) (fun _=>I)
theorem fB (V:World) (G:fg V) (r:Bool) (F:r=true↔(p<s.size/\(gd s p&&jL (dp s p))=true)) :
  Kb 63 #[.int .i64 (xp s p)] V fun e w'=>e=.returned (.bool r)/\w'=V:=by
 have h:=Az (xp s p) V G.1
 have e:jL (xp s p)=r:=by
  by_cases u:p<s.size
  ·rw[aL u,F8,KS,F];exact⟨fun h=>⟨u,h⟩,fun h=>h.2⟩
  ·rw[fc (by omega)];cases r with
   |true=>exact absurd (F.1 rfl).1 u
   |false=>decide
 rw[e]at h;exact h
theorem ei (V:World) (r:Bool) (F:r=true↔(p<s.size/\dh (av s p)=true)) :
  Kb 67 #[.int .i32 (xp s p)] V fun e w'=>e=.returned (.bool r)/\w'=V:=by
 have h:=iI (xp s p) V
 have e:(decide (48<=xp s p)&&decide (xp s p<=57))=r:=by
  by_cases u:p<s.size
  ·rw[aL u,uw,KS,F];exact⟨fun h=>⟨u,h⟩,fun h=>h.2⟩
  ·rw[fc (by omega)];cases r with
   |true=>exact absurd (F.1 rfl).1 u
   |false=>decide
 rw[e]at h;exact h
theorem bN (V:World) (u:p<s.size) (r:Bool) (F:r=bJ (av s p)) :
  Kb 71 #[.int .i32 (xp s p)] V fun e w'=>e=.returned (.bool r)/\Kc V w':=by
 have h:=oF (xp s p) V (by rw[aL u];omega);rw[aL u,JD,<-F]at h;rw[aL u];exact h
