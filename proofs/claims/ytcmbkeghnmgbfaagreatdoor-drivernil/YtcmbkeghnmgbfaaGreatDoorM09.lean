import Derived.Test.YtcmbkeghnmgbfaaGreatDoorM08
set_option linter.all false
set_option maxHeartbeats 1000000
set_option maxRecDepth 100000
namespace Go.Proofs.YtcmbkeghnmgbfaaGreatDoor.Lx
open Go.Proofs.Tryz
open Go.RowKit
variable {s o:ByteArray}{b p g f:Nat}{w0 W:World}{T0 new:List Tk}
theorem fv (h:MS s b p 3):s.extract b p≠dj:=by
 cases h with
 |sign h1 h2 h3=>
  intro e;obtain⟨I,u,F⟩:=iw (s.extract b p) 0 (by omega);have H:=ag s b p h2
  have G:(s.extract b p).extract 0 (0+(sg (s.extract b p) 0).size)=s.extract b p:=by
   rw[h3,Km,<-H];exact dJ _
  rw[G,e]at u;rw[e,<-u]at F;exact kS F
theorem fu (h:MS s b p 3):¬p-b<(sg (s.extract b p) 0).size:=by
 cases h with
 |sign h1 h2 h3=>omega
theorem eK {S:Nat->Prop}{w0 W:World}{g:Nat}{s o:ByteArray}{T0:List Tk}{p b f:Nat}{new:List Tk}{r:Bool}(h:aR S w0 W g s o T0 p 3 b f new) (hs:s.size<=2147483647) (O:b<s.size) (G:r=true↔s.extract b (xq s p)=dj) :
  Hid (Kb 68 #[.pointer (some ⟨g,0,none⟩),.string (s.extract p (xq s p))] W fun e w'=>e=.returned (.bool r)/\∃m,w'=W.drewN m):=by
 obtain⟨u,H,I,F,J,M⟩:=h.facts;obtain⟨q1,q2,q3,q4⟩:=pF h.pd;obtain⟨vt,vo,vs,h1,h2⟩:=h.lq;exact yb h1 h2.rt _ (by rw[ag s b p F];omega) (by rw[ag s p _ q4];omega) r (by rw[oU s b p _ u q2 q4];exact G)
theorem fA {S:Nat->Prop}{w0 W:World}{g:Nat}{s o:ByteArray}{T0:List Tk}{p b f:Nat}{new:List Tk}{r:Bool}(h:aR S w0 W g s o T0 p 3 b f new) (hs:s.size<=2147483647) (hb:b<s.size) (J:∀V,Kp S w0 V->fg V) (O:r=true↔p-b<(sg (s.extract b (xq s p)) 0).size) :
  Hid (∀V,aR S w0 V g s o T0 p 3 b f new->Kb 69 #[.pointer (some ⟨g,0,none⟩),.string (s.extract p (xq s p))] V fun e w'=>e=.returned (.bool r)/\Kc V w'):=fun V M=>by
 obtain⟨G,f2,f3,H,f5,f6⟩:=h.facts;obtain⟨q1,q2,q3,q4⟩:=pF h.pd
 have aa:b<p:=by
  cases h.ms with
  |sign e _ _=>exact e
 obtain⟨vt,vo,vs,I,F⟩:=M.lq;have hz:=ag s b p H;have u:=xZ I F.rt (J V F.kp).2.2 (s.extract p (xq s p)) (by omega) (by omega) (by rw[ag s p _ q4];omega);rw[oU s b p _ G q2 q4]at u;have e:decide ((s.extract b p).size<(sg (s.extract b (xq s p)) 0).size)=r:=by rw[KS,KJ,O,hz]
 rw[e]at u;exact u
theorem tH {S:Nat->Prop}(h:aR S w0 W g s o T0 p 0 b f new) (hs:s.size<=2147483647) (G:∀V,Kp S w0 V->fg V) (u:s.size<=p) :
  Kb 38 #[.pointer (some ⟨g,0,none⟩),.int .i32 (xp s p),.string (s.extract p (xq s p))] W fun e w'=>aT S w0 g s o T0 p e w':=by
 obtain⟨M,O,f3,f4,f5,f6⟩:=h.facts;obtain⟨c5,z5,hgl⟩:=h.cell
 have I:IntKind.i64.wrap (xp s p)=xp s p:=by
  rw[Ki];have:=bL s p;unfold xp
  split<;>omega
 obtain rfl:b=p:=by
  cases h.ms with
  |none e=>exact e
 have H:=ku h;have J:=ku u;have q1:(xp s b == -1)=true:=by rw[LM];exact fc u
 have F:=ku (aT.ends h u);clear h G u
 go_enter func38,ntmps38
 go_wp2_with fail
 refine aN 0 rfl ?_
 go_wp2_with fail
 go_step3
 refine⟨rfl,?_⟩
 go_wp2_with fail
 simp only[Exit.jump]
 go_ret
 exact F.out
theorem tG {S:Nat->Prop}(h:aR S w0 W g s o T0 p 1 b f new) (hs:s.size<=2147483647) (M:∀V,Kp S w0 V->fg V) (O:s.size<=p) (u:p<s.size->(gd s p&&jL (dp s p))=false) :
  Kb 38 #[.pointer (some ⟨g,0,none⟩),.int .i32 (xp s p),.string (s.extract p (xq s p))] W fun e w'=>aT S w0 g s o T0 p e w':=by
 obtain⟨f1,f2,f3,f4,f5,f6⟩:=h.facts;obtain⟨c5,z5,hgl⟩:=h.cell
 have ae:IntKind.i64.wrap (xp s p)=xp s p:=by
  rw[Ki];have:=bL s p;unfold xp
  split<;>omega
 obtain⟨a1,a2⟩:=fx h.ms f4 u
 have H:b<s.size:=by
  cases h.ms with
  |name e _ _=>omega
 have ab:=ku h;have HP:=ku O;have q1:(xp s p == -1)=true:=by rw[LM];exact fc O
 have aa:=ku (fB W (M W (by obtain⟨vt,vo,vs,h1,I⟩:=h.lq;exact I.kp)) false ⟨fun h=>(by cases h),fun h=>(by rw[u h.1]at h;cases h.2)⟩);obtain⟨G,hkk⟩:∃G:Nat,(bh s 1 b p f).k=G:=⟨_,rfl⟩
 have ad:Hid (Kb 66 #[.pointer (some ⟨g,0,none⟩)] W fun e w'=>e=.returned (.int .u8 G)/\w'=W):=by
  obtain⟨vt,vo,vs,h1,I⟩:=h.lq;have h9:=fy h1 I.rt (M W I.kp).2.1
  have e9:(if ky (s.extract b p)=true then(2:Int)else 1)=G:=by
   rw[<-hkk];show _=(((if 1=1/\ky (s.extract b p)=true then 2 else 1:Nat)):Int)
   by_cases J:ky (s.extract b p)=true
   ·rw[Kd J,Kd ⟨rfl,J⟩];rfl
   ·rw[IO J,IO (fun e=>J e.2)];rfl
  rw[e9]at h9;exact h9
 have ac:=ku fun V (hV:aR S w0 V g s o T0 p 1 b f new)=>bx hV hs H a1 (by decide) a2 hkk.symm
 clear h M a1 a2 u hkk O
 go_enter func38,ntmps38
 go_wp2_with fail
 refine aH 0 1 rfl rfl ?_
 go_wp2_with fail
 go_step3
 refine⟨rfl,?_⟩
 go_wp2_with(first|(go_at_call 63;refine aa.out.mono ?_;rintro e w1⟨rfl,F⟩;replace F:=F.symm;subst F)|(go_at_call 66;refine ad.out.mono ?_;rintro e w1⟨rfl,F⟩;replace F:=F.symm;subst F)|(go_at_call 65;refine(ac.out _ ab.out).mono ?_;rintro e w3⟨rfl,r3a,r3b⟩;have HF:=ku (r3b HP.out)))
 go_step3
 refine⟨rfl,?_⟩
 go_wp2_with fail
 simp only[Exit.jump]
 go_ret
 exact HF.out
theorem tF {S:Nat->Prop}(h:aR S w0 W g s o T0 p 2 b f new) (hs:s.size<=2147483647) (hK:∀V,Kp S w0 V->fg V) (G:s.size<=p) (u:p<s.size->dh (av s p)=false) :
  Kb 38 #[.pointer (some ⟨g,0,none⟩),.int .i32 (xp s p),.string (s.extract p (xq s p))] W fun e w'=>aT S w0 g s o T0 p e w':=by
 obtain⟨f1,f2,f3,f4,f5,f6⟩:=h.facts;obtain⟨c5,z5,hgl⟩:=h.cell
 have aa:IntKind.i64.wrap (xp s p)=xp s p:=by
  rw[Ki];have:=bL s p;unfold xp
  split<;>omega
 obtain⟨O,a2⟩:=gE h.ms f4 u
 have F:b<s.size:=by
  cases h.ms with
  |num e _ _=>omega
 have J:=ku h;have HP:=ku G;have q1:(xp s p == -1)=true:=by rw[LM];exact fc G
 have I:=ku (ei W false ⟨fun h=>(by cases h),fun h=>(by rw[u h.1]at h;cases h.2)⟩);have M:=ku fun V (hV:aR S w0 V g s o T0 p 2 b f new)=>bx hV hs F O (by decide) a2 rfl
 clear h hK O a2 u G
 go_enter func38,ntmps38
 go_wp2_with fail
 refine aH 0 2 rfl rfl ?_
 go_wp2_with fail
 go_step3
 refine⟨rfl,?_⟩
 go_wp2_with(first|(go_at_call 67;refine I.out.mono ?_;rintro e w1⟨rfl,H⟩;replace H:=H.symm;subst H)|(go_at_call 65;refine(M.out _ J.out).mono ?_;rintro e w3⟨rfl,r3a,r3b⟩;have HF:=ku (r3b HP.out)))
 go_step3
 refine⟨rfl,?_⟩
 go_wp2_with fail
 simp only[Exit.jump]
 go_ret
 exact HF.out
theorem tE {S:Nat->Prop}(h:aR S w0 W g s o T0 p 3 b f new) (hs:s.size<=2147483647) (hK:∀V,Kp S w0 V->fg V) (J:s.size<=p) (hl:p<s.size->s.extract b (p+dw s p)≠dj) (F:p<s.size->¬p-b<(sg (s.extract b (p+dw s p)) 0).size) :
  Kb 38 #[.pointer (some ⟨g,0,none⟩),.int .i32 (xp s p),.string (s.extract p (xq s p))] W fun e w'=>aT S w0 g s o T0 p e w':=by
 obtain⟨f1,f2,f3,f4,f5,f6⟩:=h.facts;obtain⟨c5,z5,hgl⟩:=h.cell
 have ad:IntKind.i64.wrap (xp s p)=xp s p:=by
  rw[Ki];have:=bL s p;unfold xp
  split<;>omega
 obtain⟨a1,a2⟩:=fs h.ms f4 hl F
 have u:b<s.size:=by
  cases h.ms with
  |sign e _ _=>omega
 have aa:=ku h;have HP:=ku J;have q1:(xp s p == -1)=true:=by rw[LM];exact fc J
 have O:=eK (r:=false) h (by omega) u (by
  refine⟨fun e=>(by cases e),fun e=>?_⟩
  by_cases G:p<s.size
  ·rw[cr G]at e;exact absurd e (hl G)
  ·rw[dO (by omega)]at e;exact absurd e (fv h.ms))
 have ab:=fA (r:=false) h (by omega) u hK (by
  refine⟨fun e=>(by cases e),fun e=>?_⟩
  by_cases G:p<s.size
  ·rw[cr G]at e;exact absurd e (F G)
  ·rw[dO (by omega)]at e;exact absurd e (fu h.ms))
 have ac:=ku fun V (hV:aR S w0 V g s o T0 p 3 b f new)=>bx hV hs u a1 (by decide) a2 rfl
 clear h hK a1 a2 hl F J
 go_enter func38,ntmps38
 go_wp2_with fail
 refine aH 0 3 rfl rfl ?_
 go_wp2_with fail
 go_step3
 refine⟨rfl,?_⟩
 go_wp2_with(first|(go_at_call 68;refine O.out.mono ?_;rintro e w1⟨rfl,m1,I⟩;have H:=dY W m1;rw[<-I]at H;clear I;have M:=aa.out.below H;obtain⟨y1,v1,g1⟩:=M.cell)|(go_at_call 69;refine(ab.out _ M).mono ?_;rintro e w2⟨rfl,hb2⟩;have r2:=M.below hb2;obtain⟨y2,v2,g2⟩:=r2.cell)|(go_at_call 65;refine(ac.out _ r2).mono ?_;rintro e w3⟨rfl,r3a,r3b⟩;have HF:=ku (r3b HP.out)))
 go_step3
 refine⟨rfl,?_⟩
 go_wp2_with fail
 simp only[Exit.jump]
 go_ret
 exact HF.out
theorem tD {S:Nat->Prop}(h:aR S w0 W g s o T0 p 4 b f new) (hs:s.size<=2147483647) (hK:∀V,Kp S w0 V->fg V) (F:s.size<=p) :
  Kb 38 #[.pointer (some ⟨g,0,none⟩),.int .i32 (xp s p),.string (s.extract p (xq s p))] W fun e w'=>aT S w0 g s o T0 p e w':=by
 obtain⟨f1,f2,f3,f4,f5,f6⟩:=h.facts;obtain⟨c5,z5,hgl⟩:=h.cell
 have aa:IntKind.i64.wrap (xp s p)=xp s p:=by
  rw[Ki];have:=bL s p;unfold xp
  split<;>omega
 obtain⟨M,O⟩:=lw h.ms f4 (fun hx=>absurd hx (by omega))
 have u:b<s.size:=by
  cases h.ms with
  |line e _ _=>omega
 have I:=ku h;have HP:=ku F;have q1:(xp s p == -1)=true:=by rw[LM];exact fc F
 have H:=ku (cV W true ⟨fun _=>.inl F,fun _=>rfl⟩);have J:=ku fun V (hV:aR S w0 V g s o T0 p 4 b f new)=>bx hV hs u M (by decide) O rfl
 clear h hK M O F
 go_enter func38,ntmps38
 go_wp2_with fail
 refine aN 4 rfl ?_
 go_wp2_with fail
 go_step3
 refine⟨rfl,?_⟩
 go_wp2_with(first|(go_at_call 70;refine H.out.mono ?_;rintro e w1⟨rfl,G⟩;replace G:=G.symm;subst G)|(go_at_call 65;refine(J.out _ I.out).mono ?_;rintro e w3⟨rfl,r3a,r3b⟩;have HF:=ku (r3b HP.out)))
 go_step3
 go_wp2_with fail
 simp only[Exit.jump]
 go_ret
 exact HF.out
theorem xW {S:Nat->Prop}(h:aR S w0 W g s o T0 p 0 b f new) (hs:s.size<=2147483647) (hK:∀V,Kp S w0 V->fg V) (F:p<s.size) (u:av s p=10) :
  Kb 38 #[.pointer (some ⟨g,0,none⟩),.int .i32 (xp s p),.string (s.extract p (xq s p))] W fun e w'=>aT S w0 g s o T0 p e w':=by
 obtain⟨f1,f2,f3,f4,f5,f6⟩:=h.facts;obtain⟨c5,z5,hgl⟩:=h.cell
 have aa:IntKind.i64.wrap (xp s p)=xp s p:=by
  rw[Ki];have:=bL s p;unfold xp
  split<;>omega
 obtain rfl:b=p:=by
  cases h.ms with
  |none e=>exact e
 have J:=ku h;have HP:=ku F;have q1:(xp s b == -1)=false:=by rw[Kk,aL F];omega
 have ab:(xp s b==10)=true:=by rw[LM,aL F];exact(co s b 10 (by decide)).2 u
 have I:=ku fun V f new (hV:aR S w0 V g s o T0 b 0 b f new)=>cU hV F hs (.inl u)
 clear h hK u F
 go_enter func38,ntmps38
 go_wp2_with fail
 refine aN 0 rfl ?_
 go_wp2_with fail
 go_step3
 refine⟨rfl,?_⟩
 go_wp2_with(first|(go_at_call 72;refine(I.out _ _ _ J.out).mono ?_;intro e w9 hz;obtain⟨E,k',O,f',p',H,rfl,G⟩:=hz;have M:Hid (aT S w0 g s o T0 b (.returned (.int .i64 E)) w9):=⟨E,k',O,f',p',H,rfl,G⟩;clear G))
 simp only[Exit.jump]
 go_ret
 exact M.out
theorem xR {S:Nat->Prop}(h:aR S w0 W g s o T0 p 1 b f new) (hs:s.size<=2147483647) (hK:∀V,Kp S w0 V->fg V) (H:p<s.size) (G:av s p=10) (u:p<s.size->(gd s p&&jL (dp s p))=false) :
  Kb 38 #[.pointer (some ⟨g,0,none⟩),.int .i32 (xp s p),.string (s.extract p (xq s p))] W fun e w'=>aT S w0 g s o T0 p e w':=by
 obtain⟨f1,f2,f3,f4,f5,f6⟩:=h.facts;obtain⟨c5,z5,hgl⟩:=h.cell
 have af:IntKind.i64.wrap (xp s p)=xp s p:=by
  rw[Ki];have:=bL s p;unfold xp
  split<;>omega
 obtain⟨a1,a2⟩:=fx h.ms f4 u
 have M:b<s.size:=by
  cases h.ms with
  |name e _ _=>omega
 have ac:=ku h;have HP:=ku H;have q1:(xp s p == -1)=false:=by rw[Kk,aL H];omega
 have ag:(xp s p==10)=true:=by rw[LM,aL H];exact(co s p 10 (by decide)).2 G
 have aa:=ku fun V f new (hV:aR S w0 V g s o T0 p 0 p f new)=>cU hV H hs (.inl G)
 have ab:=ku (fB W (hK W (by obtain⟨vt,vo,vs,h1,h2⟩:=h.lq;exact h2.kp)) false ⟨fun h=>(by cases h),fun h=>(by rw[u h.1]at h;cases h.2)⟩);obtain⟨I,hkk⟩:∃I:Nat,(bh s 1 b p f).k=I:=⟨_,rfl⟩
 have ae:Hid (Kb 66 #[.pointer (some ⟨g,0,none⟩)] W fun e w'=>e=.returned (.int .u8 I)/\w'=W):=by
  obtain⟨vt,vo,vs,h1,h2⟩:=h.lq;have h9:=fy h1 h2.rt (hK W h2.kp).2.1
  have e9:(if ky (s.extract b p)=true then(2:Int)else 1)=I:=by
   rw[<-hkk];show _=(((if 1=1/\ky (s.extract b p)=true then 2 else 1:Nat)):Int)
   by_cases hy:ky (s.extract b p)=true
   ·rw[Kd hy,Kd ⟨rfl,hy⟩];rfl
   ·rw[IO hy,IO (fun e=>hy e.2)];rfl
  rw[e9]at h9;exact h9
 have ad:=ku fun V (hV:aR S w0 V g s o T0 p 1 b f new)=>bx hV hs M a1 (by decide) a2 hkk.symm
 clear h hK a1 a2 u hkk G H
 go_enter func38,ntmps38
 go_wp2_with fail
 refine aH 0 1 rfl rfl ?_
 go_wp2_with fail
 go_step3
 refine⟨rfl,?_⟩
 go_wp2_with(first|(go_at_call 63;refine ab.out.mono ?_;rintro e w1⟨rfl,F⟩;replace F:=F.symm;subst F)|(go_at_call 66;refine ae.out.mono ?_;rintro e w1⟨rfl,F⟩;replace F:=F.symm;subst F)|(go_at_call 65;refine(ad.out _ ac.out).mono ?_;rintro e w3⟨rfl,r3a,r3b⟩;have r3:=r3a HP.out;obtain⟨y3,v3,g3⟩:=r3.cell;clear r3a r3b))
 go_step3
 refine⟨rfl,?_⟩
 go_wp2_with(first|(go_at_call 72;refine(aa.out _ _ _ r3).mono ?_;intro e w9 hz;obtain⟨E,k',b',f',p',O,rfl,J⟩:=hz;have HF:Hid (aT S w0 g s o T0 p (.returned (.int .i64 E)) w9):=⟨E,k',b',f',p',O,rfl,J⟩;clear J))
 simp only[Exit.jump]
 go_ret
 exact HF.out
theorem xL {S:Nat->Prop}(h:aR S w0 W g s o T0 p 2 b f new) (hs:s.size<=2147483647) (hK:∀V,Kp S w0 V->fg V) (G:p<s.size) (F:av s p=10) (u:p<s.size->dh (av s p)=false) :
  Kb 38 #[.pointer (some ⟨g,0,none⟩),.int .i32 (xp s p),.string (s.extract p (xq s p))] W fun e w'=>aT S w0 g s o T0 p e w':=by
 obtain⟨f1,f2,f3,f4,f5,f6⟩:=h.facts;obtain⟨c5,z5,hgl⟩:=h.cell
 have ae:IntKind.i64.wrap (xp s p)=xp s p:=by
  rw[Ki];have:=bL s p;unfold xp
  split<;>omega
 obtain⟨a1,a2⟩:=gE h.ms f4 u
 have I:b<s.size:=by
  cases h.ms with
  |num e _ _=>omega
 have ac:=ku h;have HP:=ku G;have q1:(xp s p == -1)=false:=by rw[Kk,aL G];omega
 have af:(xp s p==10)=true:=by rw[LM,aL G];exact(co s p 10 (by decide)).2 F
 have ab:=ku fun V f new (M:aR S w0 V g s o T0 p 0 p f new)=>cU M G hs (.inl F)
 have aa:=ku (ei W false ⟨fun h=>(by cases h),fun h=>(by rw[u h.1]at h;cases h.2)⟩);have ad:=ku fun V (M:aR S w0 V g s o T0 p 2 b f new)=>bx M hs I a1 (by decide) a2 rfl
 clear h hK a1 a2 u F G
 go_enter func38,ntmps38
 go_wp2_with fail
 refine aH 0 2 rfl rfl ?_
 go_wp2_with fail
 go_step3
 refine⟨rfl,?_⟩
 go_wp2_with(first|(go_at_call 67;refine aa.out.mono ?_;rintro e w1⟨rfl,O⟩;replace O:=O.symm;subst O)|(go_at_call 65;refine(ad.out _ ac.out).mono ?_;rintro e w3⟨rfl,r3a,r3b⟩;have r3:=r3a HP.out;obtain⟨y3,v3,g3⟩:=r3.cell;clear r3a r3b))
 go_step3
 refine⟨rfl,?_⟩
 go_wp2_with(first|(go_at_call 72;refine(ab.out _ _ _ r3).mono ?_;intro e w9 hz;obtain⟨E,k',b',f',p',J,rfl,H⟩:=hz;have HF:Hid (aT S w0 g s o T0 p (.returned (.int .i64 E)) w9):=⟨E,k',b',f',p',J,rfl,H⟩;clear H))
 simp only[Exit.jump]
 go_ret
 exact HF.out
theorem xG {S:Nat->Prop}(h:aR S w0 W g s o T0 p 3 b f new) (hs:s.size<=2147483647) (hK:∀V,Kp S w0 V->fg V) (H:p<s.size) (F:av s p=10) (hl:p<s.size->s.extract b (p+dw s p)≠dj) (G:p<s.size->¬p-b<(sg (s.extract b (p+dw s p)) 0).size) :
  Kb 38 #[.pointer (some ⟨g,0,none⟩),.int .i32 (xp s p),.string (s.extract p (xq s p))] W fun e w'=>aT S w0 g s o T0 p e w':=by
 obtain⟨f1,f2,f3,f4,f5,f6⟩:=h.facts;obtain⟨c5,z5,hgl⟩:=h.cell
 have ag:IntKind.i64.wrap (xp s p)=xp s p:=by
  rw[Ki];have:=bL s p;unfold xp
  split<;>omega
 obtain⟨a1,a2⟩:=fs h.ms f4 hl G
 have u:b<s.size:=by
  cases h.ms with
  |sign e _ _=>omega
 have ad:=ku h;have HP:=ku H;have q1:(xp s p == -1)=false:=by rw[Kk,aL H];omega
 have ah:(xp s p==10)=true:=by rw[LM,aL H];exact(co s p 10 (by decide)).2 F
 have ac:=ku fun V f new (hV:aR S w0 V g s o T0 p 0 p f new)=>cU hV H hs (.inl F)
 have ab:=eK (r:=false) h (by omega) u (by
  refine⟨fun e=>(by cases e),fun e=>?_⟩
  by_cases I:p<s.size
  ·rw[cr I]at e;exact absurd e (hl I)
  ·rw[dO (by omega)]at e;exact absurd e (fv h.ms))
 have ae:=fA (r:=false) h (by omega) u hK (by
  refine⟨fun e=>(by cases e),fun e=>?_⟩
  by_cases I:p<s.size
  ·rw[cr I]at e;exact absurd e (G I)
  ·rw[dO (by omega)]at e;exact absurd e (fu h.ms))
 have af:=ku fun V (hV:aR S w0 V g s o T0 p 3 b f new)=>bx hV hs u a1 (by decide) a2 rfl
 clear h hK a1 a2 hl G F H
 go_enter func38,ntmps38
 go_wp2_with fail
 refine aH 0 3 rfl rfl ?_
 go_wp2_with fail
 go_step3
 refine⟨rfl,?_⟩
 go_wp2_with(first|(go_at_call 68;refine ab.out.mono ?_;rintro e w1⟨rfl,m1,M⟩;have J:=dY W m1;rw[<-M]at J;clear M;have r1:=ad.out.below J;obtain⟨y1,v1,g1⟩:=r1.cell)|(go_at_call 69;refine(ae.out _ r1).mono ?_;rintro e w2⟨rfl,hb2⟩;have r2:=r1.below hb2;obtain⟨y2,v2,g2⟩:=r2.cell)|(go_at_call 65;refine(af.out _ r2).mono ?_;rintro e w3⟨rfl,r3a,r3b⟩;have r3:=r3a HP.out;obtain⟨y3,v3,g3⟩:=r3.cell;clear r3a r3b))
 go_step3
 refine⟨rfl,?_⟩
 go_wp2_with(first|(go_at_call 72;refine(ac.out _ _ _ r3).mono ?_;intro e w9 hz;obtain⟨E,k',b',f',p',aa,rfl,O⟩:=hz;have HF:Hid (aT S w0 g s o T0 p (.returned (.int .i64 E)) w9):=⟨E,k',b',f',p',aa,rfl,O⟩;clear O))
 simp only[Exit.jump]
 go_ret
 exact HF.out
theorem xC {S:Nat->Prop}(h:aR S w0 W g s o T0 p 4 b f new) (hs:s.size<=2147483647) (hK:∀V,Kp S w0 V->fg V) (F:p<s.size) (u:av s p=10) :
  Kb 38 #[.pointer (some ⟨g,0,none⟩),.int .i32 (xp s p),.string (s.extract p (xq s p))] W fun e w'=>aT S w0 g s o T0 p e w':=by
 obtain⟨f1,f2,f3,f4,f5,f6⟩:=h.facts;obtain⟨c5,z5,hgl⟩:=h.cell
 have ad:IntKind.i64.wrap (xp s p)=xp s p:=by
  rw[Ki];have:=bL s p;unfold xp
  split<;>omega
 obtain⟨a1,a2⟩:=lw h.ms f4 (fun hx=>u)
 have H:b<s.size:=by
  cases h.ms with
  |line e _ _=>omega
 have ab:=ku h;have HP:=ku F;have q1:(xp s p == -1)=false:=by rw[Kk,aL F];omega
 have ae:(xp s p==10)=true:=by rw[LM,aL F];exact(co s p 10 (by decide)).2 u
 have aa:=ku fun V f new (J:aR S w0 V g s o T0 p 0 p f new)=>cU J F hs (.inl u)
 have O:=ku (cV W true ⟨fun _=>.inr u,fun _=>rfl⟩);have ac:=ku fun V (J:aR S w0 V g s o T0 p 4 b f new)=>bx J hs H a1 (by decide) a2 rfl
 clear h hK a1 a2 u F
 go_enter func38,ntmps38
 go_wp2_with fail
 refine aN 4 rfl ?_
 go_wp2_with fail
 go_step3
 refine⟨rfl,?_⟩
 go_wp2_with(first|(go_at_call 70;refine O.out.mono ?_;rintro e w1⟨rfl,M⟩;replace M:=M.symm;subst M)|(go_at_call 65;refine(ac.out _ ab.out).mono ?_;rintro e w3⟨rfl,r3a,r3b⟩;have r3:=r3a HP.out;obtain⟨y3,v3,g3⟩:=r3.cell;clear r3a r3b))
 go_step3
 go_wp2_with(first|(go_at_call 72;refine(aa.out _ _ _ r3).mono ?_;intro e w9 hz;obtain⟨E,k',b',f',p',I,rfl,G⟩:=hz;have HF:Hid (aT S w0 g s o T0 p (.returned (.int .i64 E)) w9):=⟨E,k',b',f',p',I,rfl,G⟩;clear G))
 simp only[Exit.jump]
 go_ret
 exact HF.out
theorem xX {S:Nat->Prop}(h:aR S w0 W g s o T0 p 0 b f new) (hs:s.size<=2147483647) (hK:∀V,Kp S w0 V->fg V) (F:p<s.size) (G:av s p≠10) (u:bJ (av s p)=true) :
  Kb 38 #[.pointer (some ⟨g,0,none⟩),.int .i32 (xp s p),.string (s.extract p (xq s p))] W fun e w'=>aT S w0 g s o T0 p e w':=by
 obtain⟨f1,f2,f3,f4,f5,f6⟩:=h.facts;obtain⟨c5,z5,hgl⟩:=h.cell
 have aa:IntKind.i64.wrap (xp s p)=xp s p:=by
  rw[Ki];have:=bL s p;unfold xp
  split<;>omega
 obtain rfl:b=p:=by
  cases h.ms with
  |none e=>exact e
 have J:=ku h;have HP:=ku F;have q1:(xp s b == -1)=false:=by rw[Kk,aL F];omega
 have ab:(xp s b==10)=false:=by rw[Kk,aL F];exact fun e=>G ((co s b 10 (by decide)).1 e)
 have H:Hid (∀V,Kb 71 #[.int .i32 (xp s b)] V fun e w'=>e=.returned (.bool true)/\Kc V w'):=fun V=>bN V F true u.symm
 have I:=ku fun V f new (hV:aR S w0 V g s o T0 b 0 b f new)=>cU hV F hs (.inr u)
 clear h hK G u F
 go_enter func38,ntmps38
 go_wp2_with fail
 refine aN 0 rfl ?_
 go_wp2_with fail
 go_step3
 refine⟨rfl,?_⟩
 go_wp2_with(first|(go_at_call 71;refine(H.out _).mono ?_;rintro e w4⟨rfl,M⟩;have r4:=aR.below J.out M)|(go_at_call 72;refine(I.out _ _ _ r4).mono ?_;intro e w9 hz;obtain⟨E,k',b',f',p',new',rfl,hz'⟩:=hz;have O:Hid (aT S w0 g s o T0 b (.returned (.int .i64 E)) w9):=⟨E,k',b',f',p',new',rfl,hz'⟩;clear hz'))
 simp only[Exit.jump]
 go_ret
 exact O.out
theorem xS {S:Nat->Prop}(h:aR S w0 W g s o T0 p 1 b f new) (hs:s.size<=2147483647) (hK:∀V,Kp S w0 V->fg V) (H:p<s.size) (J:av s p≠10) (G:bJ (av s p)=true) (u:p<s.size->(gd s p&&jL (dp s p))=false) :
  Kb 38 #[.pointer (some ⟨g,0,none⟩),.int .i32 (xp s p),.string (s.extract p (xq s p))] W fun e w'=>aT S w0 g s o T0 p e w':=by
 obtain⟨f1,f2,f3,f4,f5,f6⟩:=h.facts;obtain⟨c5,z5,hgl⟩:=h.cell
 have ah:IntKind.i64.wrap (xp s p)=xp s p:=by
  rw[Ki];have:=bL s p;unfold xp
  split<;>omega
 obtain⟨a1,a2⟩:=fx h.ms f4 u
 have M:b<s.size:=by
  cases h.ms with
  |name e _ _=>omega
 have ad:=ku h;have HP:=ku H;have q1:(xp s p == -1)=false:=by rw[Kk,aL H];omega
 have ai:(xp s p==10)=false:=by rw[Kk,aL H];exact fun e=>J ((co s p 10 (by decide)).1 e)
 have aa:Hid (∀V,Kb 71 #[.int .i32 (xp s p)] V fun e w'=>e=.returned (.bool true)/\Kc V w'):=fun V=>bN V H true G.symm
 have ab:=ku fun V f new (hV:aR S w0 V g s o T0 p 0 p f new)=>cU hV H hs (.inr G)
 have ac:=ku (fB W (hK W (by obtain⟨vt,vo,vs,h1,O⟩:=h.lq;exact O.kp)) false ⟨fun h=>(by cases h),fun h=>(by rw[u h.1]at h;cases h.2)⟩);obtain⟨I,hkk⟩:∃I:Nat,(bh s 1 b p f).k=I:=⟨_,rfl⟩
 have af:Hid (Kb 66 #[.pointer (some ⟨g,0,none⟩)] W fun e w'=>e=.returned (.int .u8 I)/\w'=W):=by
  obtain⟨vt,vo,vs,h1,O⟩:=h.lq;have h9:=fy h1 O.rt (hK W O.kp).2.1
  have e9:(if ky (s.extract b p)=true then(2:Int)else 1)=I:=by
   rw[<-hkk];show _=(((if 1=1/\ky (s.extract b p)=true then 2 else 1:Nat)):Int)
   by_cases hy:ky (s.extract b p)=true
   ·rw[Kd hy,Kd ⟨rfl,hy⟩];rfl
   ·rw[IO hy,IO (fun e=>hy e.2)];rfl
  rw[e9]at h9;exact h9
 have ae:=ku fun V (hV:aR S w0 V g s o T0 p 1 b f new)=>bx hV hs M a1 (by decide) a2 hkk.symm
 clear h hK a1 a2 u hkk J G H
 go_enter func38,ntmps38
 go_wp2_with fail
 refine aH 0 1 rfl rfl ?_
 go_wp2_with fail
 go_step3
 refine⟨rfl,?_⟩
 go_wp2_with(first|(go_at_call 63;refine ac.out.mono ?_;rintro e w1⟨rfl,F⟩;replace F:=F.symm;subst F)|(go_at_call 66;refine af.out.mono ?_;rintro e w1⟨rfl,F⟩;replace F:=F.symm;subst F)|(go_at_call 65;refine(ae.out _ ad.out).mono ?_;rintro e w3⟨rfl,r3a,r3b⟩;have r3:=r3a HP.out;obtain⟨y3,v3,g3⟩:=r3.cell;clear r3a r3b))
 go_step3
 refine⟨rfl,?_⟩
 go_wp2_with(first|(go_at_call 71;refine(aa.out _).mono ?_;rintro e w4⟨rfl,ag⟩;have r4:=aR.below r3 ag)|(go_at_call 72;refine(ab.out _ _ _ r4).mono ?_;intro e w9 hz;obtain⟨E,k',b',f',p',new',rfl,hz'⟩:=hz;have HF:Hid (aT S w0 g s o T0 p (.returned (.int .i64 E)) w9):=⟨E,k',b',f',p',new',rfl,hz'⟩;clear hz'))
 simp only[Exit.jump]
 go_ret
 exact HF.out
theorem xM {S:Nat->Prop}(h:aR S w0 W g s o T0 p 2 b f new) (hs:s.size<=2147483647) (hK:∀V,Kp S w0 V->fg V) (G:p<s.size) (H:av s p≠10) (F:bJ (av s p)=true) (u:p<s.size->dh (av s p)=false) :
  Kb 38 #[.pointer (some ⟨g,0,none⟩),.int .i32 (xp s p),.string (s.extract p (xq s p))] W fun e w'=>aT S w0 g s o T0 p e w':=by
 obtain⟨f1,f2,f3,f4,f5,f6⟩:=h.facts;obtain⟨c5,z5,hgl⟩:=h.cell
 have af:IntKind.i64.wrap (xp s p)=xp s p:=by
  rw[Ki];have:=bL s p;unfold xp
  split<;>omega
 obtain⟨a1,a2⟩:=gE h.ms f4 u
 have I:b<s.size:=by
  cases h.ms with
  |num e _ _=>omega
 have ac:=ku h;have HP:=ku G;have q1:(xp s p == -1)=false:=by rw[Kk,aL G];omega
 have ag:(xp s p==10)=false:=by rw[Kk,aL G];exact fun e=>H ((co s p 10 (by decide)).1 e)
 have O:Hid (∀V,Kb 71 #[.int .i32 (xp s p)] V fun e w'=>e=.returned (.bool true)/\Kc V w'):=fun V=>bN V G true F.symm
 have ab:=ku fun V f new (J:aR S w0 V g s o T0 p 0 p f new)=>cU J G hs (.inr F)
 have aa:=ku (ei W false ⟨fun h=>(by cases h),fun h=>(by rw[u h.1]at h;cases h.2)⟩);have ad:=ku fun V (J:aR S w0 V g s o T0 p 2 b f new)=>bx J hs I a1 (by decide) a2 rfl
 clear h hK a1 a2 u H F G
 go_enter func38,ntmps38
 go_wp2_with fail
 refine aH 0 2 rfl rfl ?_
 go_wp2_with fail
 go_step3
 refine⟨rfl,?_⟩
 go_wp2_with(first|(go_at_call 67;refine aa.out.mono ?_;rintro e w1⟨rfl,M⟩;replace M:=M.symm;subst M)|(go_at_call 65;refine(ad.out _ ac.out).mono ?_;rintro e w3⟨rfl,r3a,r3b⟩;have r3:=r3a HP.out;obtain⟨y3,v3,g3⟩:=r3.cell;clear r3a r3b))
 go_step3
 refine⟨rfl,?_⟩
 go_wp2_with(first|(go_at_call 71;refine(O.out _).mono ?_;rintro e w4⟨rfl,ae⟩;have r4:=aR.below r3 ae)|(go_at_call 72;refine(ab.out _ _ _ r4).mono ?_;intro e w9 hz;obtain⟨E,k',b',f',p',new',rfl,hz'⟩:=hz;have HF:Hid (aT S w0 g s o T0 p (.returned (.int .i64 E)) w9):=⟨E,k',b',f',p',new',rfl,hz'⟩;clear hz'))
 simp only[Exit.jump]
 go_ret
 exact HF.out
theorem xH {S:Nat->Prop}(h:aR S w0 W g s o T0 p 3 b f new) (hs:s.size<=2147483647) (hK:∀V,Kp S w0 V->fg V) (H:p<s.size) (J:av s p≠10) (F:bJ (av s p)=true) (hl:p<s.size->s.extract b (p+dw s p)≠dj) (G:p<s.size->¬p-b<(sg (s.extract b (p+dw s p)) 0).size) :
  Kb 38 #[.pointer (some ⟨g,0,none⟩),.int .i32 (xp s p),.string (s.extract p (xq s p))] W fun e w'=>aT S w0 g s o T0 p e w':=by
 obtain⟨f1,f2,f3,f4,f5,f6⟩:=h.facts;obtain⟨c5,z5,hgl⟩:=h.cell
 have ah:IntKind.i64.wrap (xp s p)=xp s p:=by
  rw[Ki];have:=bL s p;unfold xp
  split<;>omega
 obtain⟨a1,a2⟩:=fs h.ms f4 hl G
 have u:b<s.size:=by
  cases h.ms with
  |sign e _ _=>omega
 have ad:=ku h;have HP:=ku H;have q1:(xp s p == -1)=false:=by rw[Kk,aL H];omega
 have ai:(xp s p==10)=false:=by rw[Kk,aL H];exact fun e=>J ((co s p 10 (by decide)).1 e)
 have aa:Hid (∀V,Kb 71 #[.int .i32 (xp s p)] V fun e w'=>e=.returned (.bool true)/\Kc V w'):=fun V=>bN V H true F.symm
 have ac:=ku fun V f new (hV:aR S w0 V g s o T0 p 0 p f new)=>cU hV H hs (.inr F)
 have ab:=eK (r:=false) h (by omega) u (by
  refine⟨fun e=>(by cases e),fun e=>?_⟩
  by_cases I:p<s.size
  ·rw[cr I]at e;exact absurd e (hl I)
  ·rw[dO (by omega)]at e;exact absurd e (fv h.ms))
 have ae:=fA (r:=false) h (by omega) u hK (by
  refine⟨fun e=>(by cases e),fun e=>?_⟩
  by_cases I:p<s.size
  ·rw[cr I]at e;exact absurd e (G I)
  ·rw[dO (by omega)]at e;exact absurd e (fu h.ms))
 have af:=ku fun V (hV:aR S w0 V g s o T0 p 3 b f new)=>bx hV hs u a1 (by decide) a2 rfl
 clear h hK a1 a2 hl G J F H
 go_enter func38,ntmps38
 go_wp2_with fail
 refine aH 0 3 rfl rfl ?_
 go_wp2_with fail
 go_step3
 refine⟨rfl,?_⟩
 go_wp2_with(first|(go_at_call 68;refine ab.out.mono ?_;rintro e w1⟨rfl,m1,O⟩;have M:=dY W m1;rw[<-O]at M;clear O;have r1:=ad.out.below M;obtain⟨y1,v1,g1⟩:=r1.cell)|(go_at_call 69;refine(ae.out _ r1).mono ?_;rintro e w2⟨rfl,hb2⟩;have r2:=r1.below hb2;obtain⟨y2,v2,g2⟩:=r2.cell)|(go_at_call 65;refine(af.out _ r2).mono ?_;rintro e w3⟨rfl,r3a,r3b⟩;have r3:=r3a HP.out;obtain⟨y3,v3,g3⟩:=r3.cell;clear r3a r3b))
 go_step3
 refine⟨rfl,?_⟩
 go_wp2_with(first|(go_at_call 71;refine(aa.out _).mono ?_;rintro e w4⟨rfl,ag⟩;have r4:=aR.below r3 ag)|(go_at_call 72;refine(ac.out _ _ _ r4).mono ?_;intro e w9 hz;obtain⟨E,k',b',f',p',new',rfl,hz'⟩:=hz;have HF:Hid (aT S w0 g s o T0 p (.returned (.int .i64 E)) w9):=⟨E,k',b',f',p',new',rfl,hz'⟩;clear hz'))
 simp only[Exit.jump]
 go_ret
 exact HF.out
theorem xV {S:Nat->Prop}(h:aR S w0 W g s o T0 p 0 b f new) (hs:s.size<=2147483647) (hK:∀V,Kp S w0 V->fg V) (u:p<s.size) (F:av s p≠10) (G:bJ (av s p)=false) (H:nF s p=0) :
  Kb 38 #[.pointer (some ⟨g,0,none⟩),.int .i32 (xp s p),.string (s.extract p (xq s p))] W fun e w'=>aT S w0 g s o T0 p e w':=by
 obtain⟨f1,f2,f3,f4,f5,f6⟩:=h.facts;obtain⟨c5,z5,hgl⟩:=h.cell
 have ac:IntKind.i64.wrap (xp s p)=xp s p:=by
  rw[Ki];have:=bL s p;unfold xp
  split<;>omega
 obtain rfl:b=p:=by
  cases h.ms with
  |none e=>exact e
 have aa:=ku h;have HP:=ku u;have q1:(xp s b == -1)=false:=by rw[Kk,aL u];omega
 have ad:(xp s b==10)=false:=by rw[Kk,aL u];exact fun e=>F ((co s b 10 (by decide)).1 e)
 have M:Hid (∀V,Kb 71 #[.int .i32 (xp s b)] V fun e w'=>e=.returned (.bool false)/\Kc V w'):=fun V=>bN V u false G.symm
 have J:Hid (∀V,∀{f:Nat} {new:List Tk},aR S w0 V g s o T0 b 0 b f new->Kb 73 #[.int .i32 (xp s b)] V fun e w'=>e=.returned (.int .i64 (0))/\Kc V w'):=fun V f new I=>by
  have h9:=ck s b u V (hK V (by obtain⟨vt,vo,vs,h1,h2⟩:=I.lq;exact h2.kp));rw[H]at h9;rw[aL u];exact h9
 have O:Hid (∀V,∀{f:Nat} {new:List Tk},aR S w0 V g s o T0 b 0 b f new->aT S w0 g s o T0 b (.returned (.int .i64 100)) (V.setCell ⟨g,5,none⟩ (.int .i64 0))):=fun V f new I=>aT.noTok I u F G H
 clear h hK F G H u
 go_enter func38,ntmps38
 go_wp2_with fail
 refine aN 0 rfl ?_
 go_wp2_with fail
 go_step3
 refine⟨rfl,?_⟩
 go_wp2_with(first|(go_at_call 71;refine(M.out _).mono ?_;rintro e w4⟨rfl,ab⟩;have r4:=aR.below aa.out ab)|(go_at_call 73;refine(J.out _ r4).mono ?_;rintro e w5⟨rfl,hb5⟩;have r5:=r4.below hb5;obtain⟨y5,v5,g5⟩:=r5.cell;have HF:=ku (O.out _ r5)))
 simp only[Exit.jump]
 go_ret
 exact HF.out
theorem xQ {S:Nat->Prop}(h:aR S w0 W g s o T0 p 1 b f new) (hs:s.size<=2147483647) (hK:∀V,Kp S w0 V->fg V) (F:p<s.size) (H:av s p≠10) (I:bJ (av s p)=false) (hB:nF s p=0) (u:p<s.size->(gd s p&&jL (dp s p))=false) :
  Kb 38 #[.pointer (some ⟨g,0,none⟩),.int .i32 (xp s p),.string (s.extract p (xq s p))] W fun e w'=>aT S w0 g s o T0 p e w':=by
 obtain⟨f1,f2,f3,f4,f5,f6⟩:=h.facts;obtain⟨c5,z5,hgl⟩:=h.cell
 have aj:IntKind.i64.wrap (xp s p)=xp s p:=by
  rw[Ki];have:=bL s p;unfold xp
  split<;>omega
 obtain⟨a1,a2⟩:=fx h.ms f4 u
 have aa:b<s.size:=by
  cases h.ms with
  |name e _ _=>omega
 have af:=ku h;have HP:=ku F;have q1:(xp s p == -1)=false:=by rw[Kk,aL F];omega
 have ak:(xp s p==10)=false:=by rw[Kk,aL F];exact fun e=>H ((co s p 10 (by decide)).1 e)
 have ac:Hid (∀V,Kb 71 #[.int .i32 (xp s p)] V fun e w'=>e=.returned (.bool false)/\Kc V w'):=fun V=>bN V F false I.symm
 have ab:Hid (∀V,∀{f:Nat} {new:List Tk},aR S w0 V g s o T0 p 0 p f new->Kb 73 #[.int .i32 (xp s p)] V fun e w'=>e=.returned (.int .i64 (0))/\Kc V w'):=fun V f new O=>by
  have M:=ck s p F V (hK V (by obtain⟨vt,vo,vs,h1,J⟩:=O.lq;exact J.kp));rw[hB]at M;rw[aL F];exact M
 have ad:Hid (∀V,∀{f:Nat} {new:List Tk},aR S w0 V g s o T0 p 0 p f new->aT S w0 g s o T0 p (.returned (.int .i64 100)) (V.setCell ⟨g,5,none⟩ (.int .i64 0))):=fun V f new O=>aT.noTok O F H I hB
 have ae:=ku (fB W (hK W (by obtain⟨vt,vo,vs,h1,J⟩:=h.lq;exact J.kp)) false ⟨fun h=>(by cases h),fun h=>(by rw[u h.1]at h;cases h.2)⟩);obtain⟨kk,hkk⟩:∃kk:Nat,(bh s 1 b p f).k=kk:=⟨_,rfl⟩
 have ah:Hid (Kb 66 #[.pointer (some ⟨g,0,none⟩)] W fun e w'=>e=.returned (.int .u8 kk)/\w'=W):=by
  obtain⟨vt,vo,vs,h1,J⟩:=h.lq;have M:=fy h1 J.rt (hK W J.kp).2.1
  have e9:(if ky (s.extract b p)=true then(2:Int)else 1)=kk:=by
   rw[<-hkk];show _=(((if 1=1/\ky (s.extract b p)=true then 2 else 1:Nat)):Int)
   by_cases hy:ky (s.extract b p)=true
   ·rw[Kd hy,Kd ⟨rfl,hy⟩];rfl
   ·rw[IO hy,IO (fun e=>hy e.2)];rfl
  rw[e9]at M;exact M
 have ag:=ku fun V (O:aR S w0 V g s o T0 p 1 b f new)=>bx O hs aa a1 (by decide) a2 hkk.symm
 clear h hK a1 a2 u hkk H I hB F
 go_enter func38,ntmps38
 go_wp2_with fail
 refine aH 0 1 rfl rfl ?_
 go_wp2_with fail
 go_step3
 refine⟨rfl,?_⟩
 go_wp2_with(first|(go_at_call 63;refine ae.out.mono ?_;rintro e w1⟨rfl,G⟩;replace G:=G.symm;subst G)|(go_at_call 66;refine ah.out.mono ?_;rintro e w1⟨rfl,G⟩;replace G:=G.symm;subst G)|(go_at_call 65;refine(ag.out _ af.out).mono ?_;rintro e w3⟨rfl,r3a,r3b⟩;have r3:=r3a HP.out;obtain⟨y3,v3,g3⟩:=r3.cell;clear r3a r3b))
 go_step3
 refine⟨rfl,?_⟩
 go_wp2_with(first|(go_at_call 71;refine(ac.out _).mono ?_;rintro e w4⟨rfl,ai⟩;have r4:=aR.below r3 ai)|(go_at_call 73;refine(ab.out _ r4).mono ?_;rintro e w5⟨rfl,hb5⟩;have r5:=r4.below hb5;obtain⟨y5,v5,g5⟩:=r5.cell;have HF:=ku (ad.out _ r5)))
 simp only[Exit.jump]
 go_ret
 exact HF.out
theorem xK {S:Nat->Prop}(h:aR S w0 W g s o T0 p 2 b f new) (hs:s.size<=2147483647) (hK:∀V,Kp S w0 V->fg V) (F:p<s.size) (G:av s p≠10) (H:bJ (av s p)=false) (M:nF s p=0) (u:p<s.size->dh (av s p)=false) :
  Kb 38 #[.pointer (some ⟨g,0,none⟩),.int .i32 (xp s p),.string (s.extract p (xq s p))] W fun e w'=>aT S w0 g s o T0 p e w':=by
 obtain⟨f1,f2,f3,f4,f5,f6⟩:=h.facts;obtain⟨c5,z5,hgl⟩:=h.cell
 have ah:IntKind.i64.wrap (xp s p)=xp s p:=by
  rw[Ki];have:=bL s p;unfold xp
  split<;>omega
 obtain⟨a1,a2⟩:=gE h.ms f4 u
 have J:b<s.size:=by
  cases h.ms with
  |num e _ _=>omega
 have ae:=ku h;have HP:=ku F;have q1:(xp s p == -1)=false:=by rw[Kk,aL F];omega
 have ai:(xp s p==10)=false:=by rw[Kk,aL F];exact fun e=>G ((co s p 10 (by decide)).1 e)
 have ab:Hid (∀V,Kb 71 #[.int .i32 (xp s p)] V fun e w'=>e=.returned (.bool false)/\Kc V w'):=fun V=>bN V F false H.symm
 have aa:Hid (∀V,∀{f:Nat} {new:List Tk},aR S w0 V g s o T0 p 0 p f new->Kb 73 #[.int .i32 (xp s p)] V fun e w'=>e=.returned (.int .i64 (0))/\Kc V w'):=fun V f new I=>by
  have h9:=ck s p F V (hK V (by obtain⟨vt,vo,vs,h1,h2⟩:=I.lq;exact h2.kp));rw[M]at h9;rw[aL F];exact h9
 have ad:Hid (∀V,∀{f:Nat} {new:List Tk},aR S w0 V g s o T0 p 0 p f new->aT S w0 g s o T0 p (.returned (.int .i64 100)) (V.setCell ⟨g,5,none⟩ (.int .i64 0))):=fun V f new I=>aT.noTok I F G H M
 have ac:=ku (ei W false ⟨fun h=>(by cases h),fun h=>(by rw[u h.1]at h;cases h.2)⟩);have af:=ku fun V (I:aR S w0 V g s o T0 p 2 b f new)=>bx I hs J a1 (by decide) a2 rfl
 clear h hK a1 a2 u G H M F
 go_enter func38,ntmps38
 go_wp2_with fail
 refine aH 0 2 rfl rfl ?_
 go_wp2_with fail
 go_step3
 refine⟨rfl,?_⟩
 go_wp2_with(first|(go_at_call 67;refine ac.out.mono ?_;rintro e w1⟨rfl,O⟩;replace O:=O.symm;subst O)|(go_at_call 65;refine(af.out _ ae.out).mono ?_;rintro e w3⟨rfl,r3a,r3b⟩;have r3:=r3a HP.out;obtain⟨y3,v3,g3⟩:=r3.cell;clear r3a r3b))
 go_step3
 refine⟨rfl,?_⟩
 go_wp2_with(first|(go_at_call 71;refine(ab.out _).mono ?_;rintro e w4⟨rfl,ag⟩;have r4:=aR.below r3 ag)|(go_at_call 73;refine(aa.out _ r4).mono ?_;rintro e w5⟨rfl,hb5⟩;have r5:=r4.below hb5;obtain⟨y5,v5,g5⟩:=r5.cell;have HF:=ku (ad.out _ r5)))
 simp only[Exit.jump]
 go_ret
 exact HF.out
theorem xE {S:Nat->Prop}(h:aR S w0 W g s o T0 p 3 b f new) (hs:s.size<=2147483647) (hK:∀V,Kp S w0 V->fg V) (F:p<s.size) (G:av s p≠10) (H:bJ (av s p)=false) (hB:nF s p=0) (hl:p<s.size->s.extract b (p+dw s p)≠dj) (I:p<s.size->¬p-b<(sg (s.extract b (p+dw s p)) 0).size) :
  Kb 38 #[.pointer (some ⟨g,0,none⟩),.int .i32 (xp s p),.string (s.extract p (xq s p))] W fun e w'=>aT S w0 g s o T0 p e w':=by
 obtain⟨f1,f2,f3,f4,f5,f6⟩:=h.facts;obtain⟨c5,z5,hgl⟩:=h.cell
 have aj:IntKind.i64.wrap (xp s p)=xp s p:=by
  rw[Ki];have:=bL s p;unfold xp
  split<;>omega
 obtain⟨a1,a2⟩:=fs h.ms f4 hl I
 have u:b<s.size:=by
  cases h.ms with
  |sign e _ _=>omega
 have af:=ku h;have HP:=ku F;have q1:(xp s p == -1)=false:=by rw[Kk,aL F];omega
 have ak:(xp s p==10)=false:=by rw[Kk,aL F];exact fun e=>G ((co s p 10 (by decide)).1 e)
 have ac:Hid (∀V,Kb 71 #[.int .i32 (xp s p)] V fun e w'=>e=.returned (.bool false)/\Kc V w'):=fun V=>bN V F false H.symm
 have ab:Hid (∀V,∀{f:Nat} {new:List Tk},aR S w0 V g s o T0 p 0 p f new->Kb 73 #[.int .i32 (xp s p)] V fun e w'=>e=.returned (.int .i64 (0))/\Kc V w'):=fun V f new J=>by
  have h9:=ck s p F V (hK V (by obtain⟨vt,vo,vs,h1,h2⟩:=J.lq;exact h2.kp));rw[hB]at h9;rw[aL F];exact h9
 have ae:Hid (∀V,∀{f:Nat} {new:List Tk},aR S w0 V g s o T0 p 0 p f new->aT S w0 g s o T0 p (.returned (.int .i64 100)) (V.setCell ⟨g,5,none⟩ (.int .i64 0))):=fun V f new J=>aT.noTok J F G H hB
 have ad:=eK (r:=false) h (by omega) u (by
  refine⟨fun e=>(by cases e),fun e=>?_⟩
  by_cases M:p<s.size
  ·rw[cr M]at e;exact absurd e (hl M)
  ·rw[dO (by omega)]at e;exact absurd e (fv h.ms))
 have ag:=fA (r:=false) h (by omega) u hK (by
  refine⟨fun e=>(by cases e),fun e=>?_⟩
  by_cases M:p<s.size
  ·rw[cr M]at e;exact absurd e (I M)
  ·rw[dO (by omega)]at e;exact absurd e (fu h.ms))
 have ah:=ku fun V (J:aR S w0 V g s o T0 p 3 b f new)=>bx J hs u a1 (by decide) a2 rfl
 clear h hK a1 a2 hl I G H hB F
 go_enter func38,ntmps38
 go_wp2_with fail
 refine aH 0 3 rfl rfl ?_
 go_wp2_with fail
 go_step3
 refine⟨rfl,?_⟩
 go_wp2_with(first|(go_at_call 68;refine ad.out.mono ?_;rintro e w1⟨rfl,m1,aa⟩;have O:=dY W m1;rw[<-aa]at O;clear aa;have r1:=af.out.below O;obtain⟨y1,v1,g1⟩:=r1.cell)|(go_at_call 69;refine(ag.out _ r1).mono ?_;rintro e w2⟨rfl,hb2⟩;have r2:=r1.below hb2;obtain⟨y2,v2,g2⟩:=r2.cell)|(go_at_call 65;refine(ah.out _ r2).mono ?_;rintro e w3⟨rfl,r3a,r3b⟩;have r3:=r3a HP.out;obtain⟨y3,v3,g3⟩:=r3.cell;clear r3a r3b))
 go_step3
 refine⟨rfl,?_⟩
 go_wp2_with(first|(go_at_call 71;refine(ac.out _).mono ?_;rintro e w4⟨rfl,ai⟩;have r4:=aR.below r3 ai)|(go_at_call 73;refine(ab.out _ r4).mono ?_;rintro e w5⟨rfl,hb5⟩;have r5:=r4.below hb5;obtain⟨y5,v5,g5⟩:=r5.cell;have HF:=ku (ae.out _ r5)))
 simp only[Exit.jump]
 go_ret
 exact HF.out
theorem xY {S:Nat->Prop}(h:aR S w0 W g s o T0 p 0 b f new) (hs:s.size<=2147483647) (hK:∀V,Kp S w0 V->fg V) (u:p<s.size) (F:av s p≠10) (H:bJ (av s p)=false) (B:Nat) (I:nF s p=B) (G:B≠0) :
  Kb 38 #[.pointer (some ⟨g,0,none⟩),.int .i32 (xp s p),.string (s.extract p (xq s p))] W fun e w'=>aT S w0 g s o T0 p e w':=by
 obtain⟨f1,f2,f3,f4,f5,f6⟩:=h.facts;obtain⟨c5,z5,hgl⟩:=h.cell
 have ad:IntKind.i64.wrap (xp s p)=xp s p:=by
  rw[Ki];have:=bL s p;unfold xp
  split<;>omega
 obtain rfl:b=p:=by
  cases h.ms with
  |none e=>exact e
 have ab:=ku h;have HP:=ku u;have q1:(xp s b == -1)=false:=by rw[Kk,aL u];omega
 have ae:(xp s b==10)=false:=by rw[Kk,aL u];exact fun e=>F ((co s b 10 (by decide)).1 e)
 have aa:Hid (∀V,Kb 71 #[.int .i32 (xp s b)] V fun e w'=>e=.returned (.bool false)/\Kc V w'):=fun V=>bN V u false H.symm
 have O:Hid (∀V,∀{f:Nat} {new:List Tk},aR S w0 V g s o T0 b 0 b f new->Kb 73 #[.int .i32 (xp s b)] V fun e w'=>e=.returned (.int .i64 (B))/\Kc V w'):=fun V f new J=>by
  have h9:=ck s b u V (hK V (by obtain⟨vt,vo,vs,h1,h2⟩:=J.lq;exact h2.kp));rw[I]at h9;rw[aL u];exact h9
 have qB:((B:Int)==0)=false:=by simp;omega
 have M:=ku fun V f new (J:aR S w0 V g s o T0 b 0 b f new)=>kt J u hs I G
 clear h hK F H I G u
 go_enter func38,ntmps38
 go_wp2_with fail
 refine aN 0 rfl ?_
 go_wp2_with fail
 go_step3
 refine⟨rfl,?_⟩
 go_wp2_with(first|(go_at_call 71;refine(aa.out _).mono ?_;rintro e w4⟨rfl,ac⟩;have r4:=aR.below ab.out ac)|(go_at_call 73;refine(O.out _ r4).mono ?_;rintro e w5⟨rfl,hb5⟩;have r5:=r4.below hb5;obtain⟨y5,v5,g5⟩:=r5.cell)|(go_at_call 64;refine(M.out _ _ _ r5).mono ?_;intro e w9 hz;obtain⟨E,k',b',f',p',new',rfl,hz'⟩:=hz;have HF:Hid (aT S w0 g s o T0 b (.returned (.int .i64 E)) w9):=⟨E,k',b',f',p',new',rfl,hz'⟩;clear hz'))
 simp only[Exit.jump]
 go_ret
 exact HF.out
theorem xU {S:Nat->Prop}(h:aR S w0 W g s o T0 p 1 b f new) (hs:s.size<=2147483647) (hK:∀V,Kp S w0 V->fg V) (F:p<s.size) (O:av s p≠10) (ab:bJ (av s p)=false) (B:Nat) (hB:nF s p=B) (aa:B≠0) (u:p<s.size->(gd s p&&jL (dp s p))=false) :
  Kb 38 #[.pointer (some ⟨g,0,none⟩),.int .i32 (xp s p),.string (s.extract p (xq s p))] W fun e w'=>aT S w0 g s o T0 p e w':=by
 obtain⟨f1,f2,f3,f4,f5,f6⟩:=h.facts;obtain⟨c5,z5,hgl⟩:=h.cell
 have al:IntKind.i64.wrap (xp s p)=xp s p:=by
  rw[Ki];have:=bL s p;unfold xp
  split<;>omega
 obtain⟨a1,a2⟩:=fx h.ms f4 u
 have ac:b<s.size:=by
  cases h.ms with
  |name e _ _=>omega
 have ah:=ku h;have HP:=ku F;have q1:(xp s p == -1)=false:=by rw[Kk,aL F];omega
 have am:(xp s p==10)=false:=by rw[Kk,aL F];exact fun e=>O ((co s p 10 (by decide)).1 e)
 have af:Hid (∀V,Kb 71 #[.int .i32 (xp s p)] V fun e w'=>e=.returned (.bool false)/\Kc V w'):=fun V=>bN V F false ab.symm
 have ae:Hid (∀V,∀{f:Nat} {new:List Tk},aR S w0 V g s o T0 p 0 p f new->Kb 73 #[.int .i32 (xp s p)] V fun e w'=>e=.returned (.int .i64 (B))/\Kc V w'):=fun V f new J=>by
  have I:=ck s p F V (hK V (by obtain⟨vt,vo,vs,h1,H⟩:=J.lq;exact H.kp));rw[hB]at I;rw[aL F];exact I
 have qB:((B:Int)==0)=false:=by simp;omega
 have ad:=ku fun V f new (J:aR S w0 V g s o T0 p 0 p f new)=>kt J F hs hB aa
 have ag:=ku (fB W (hK W (by obtain⟨vt,vo,vs,h1,H⟩:=h.lq;exact H.kp)) false ⟨fun h=>(by cases h),fun h=>(by rw[u h.1]at h;cases h.2)⟩);obtain⟨M,hkk⟩:∃M:Nat,(bh s 1 b p f).k=M:=⟨_,rfl⟩
 have aj:Hid (Kb 66 #[.pointer (some ⟨g,0,none⟩)] W fun e w'=>e=.returned (.int .u8 M)/\w'=W):=by
  obtain⟨vt,vo,vs,h1,H⟩:=h.lq;have I:=fy h1 H.rt (hK W H.kp).2.1
  have e9:(if ky (s.extract b p)=true then(2:Int)else 1)=M:=by
   rw[<-hkk];show _=(((if 1=1/\ky (s.extract b p)=true then 2 else 1:Nat)):Int)
   by_cases hy:ky (s.extract b p)=true
   ·rw[Kd hy,Kd ⟨rfl,hy⟩];rfl
   ·rw[IO hy,IO (fun e=>hy e.2)];rfl
  rw[e9]at I;exact I
 have ai:=ku fun V (J:aR S w0 V g s o T0 p 1 b f new)=>bx J hs ac a1 (by decide) a2 hkk.symm
 clear h hK a1 a2 u hkk O ab hB aa F
 go_enter func38,ntmps38
 go_wp2_with fail
 refine aH 0 1 rfl rfl ?_
 go_wp2_with fail
 go_step3
 refine⟨rfl,?_⟩
 go_wp2_with(first|(go_at_call 63;refine ag.out.mono ?_;rintro e w1⟨rfl,G⟩;replace G:=G.symm;subst G)|(go_at_call 66;refine aj.out.mono ?_;rintro e w1⟨rfl,G⟩;replace G:=G.symm;subst G)|(go_at_call 65;refine(ai.out _ ah.out).mono ?_;rintro e w3⟨rfl,r3a,r3b⟩;have r3:=r3a HP.out;obtain⟨y3,v3,g3⟩:=r3.cell;clear r3a r3b))
 go_step3
 refine⟨rfl,?_⟩
 go_wp2_with(first|(go_at_call 71;refine(af.out _).mono ?_;rintro e w4⟨rfl,ak⟩;have r4:=aR.below r3 ak)|(go_at_call 73;refine(ae.out _ r4).mono ?_;rintro e w5⟨rfl,hb5⟩;have r5:=r4.below hb5;obtain⟨y5,v5,g5⟩:=r5.cell)|(go_at_call 64;refine(ad.out _ _ _ r5).mono ?_;intro e w9 hz;obtain⟨E,k',b',f',p',new',rfl,hz'⟩:=hz;have HF:Hid (aT S w0 g s o T0 p (.returned (.int .i64 E)) w9):=⟨E,k',b',f',p',new',rfl,hz'⟩;clear hz'))
 simp only[Exit.jump]
 go_ret
 exact HF.out
theorem xN {S:Nat->Prop}(h:aR S w0 W g s o T0 p 2 b f new) (hs:s.size<=2147483647) (hK:∀V,Kp S w0 V->fg V) (F:p<s.size) (H:av s p≠10) (J:bJ (av s p)=false) (B:Nat) (O:nF s p=B) (I:B≠0) (u:p<s.size->dh (av s p)=false) :
  Kb 38 #[.pointer (some ⟨g,0,none⟩),.int .i32 (xp s p),.string (s.extract p (xq s p))] W fun e w'=>aT S w0 g s o T0 p e w':=by
 obtain⟨f1,f2,f3,f4,f5,f6⟩:=h.facts;obtain⟨c5,z5,hgl⟩:=h.cell
 have ah:IntKind.i64.wrap (xp s p)=xp s p:=by
  rw[Ki];have:=bL s p;unfold xp
  split<;>omega
 obtain⟨a1,a2⟩:=gE h.ms f4 u
 have M:b<s.size:=by
  cases h.ms with
  |num e _ _=>omega
 have ae:=ku h;have HP:=ku F;have q1:(xp s p == -1)=false:=by rw[Kk,aL F];omega
 have ai:(xp s p==10)=false:=by rw[Kk,aL F];exact fun e=>H ((co s p 10 (by decide)).1 e)
 have ac:Hid (∀V,Kb 71 #[.int .i32 (xp s p)] V fun e w'=>e=.returned (.bool false)/\Kc V w'):=fun V=>bN V F false J.symm
 have ab:Hid (∀V,∀{f:Nat} {new:List Tk},aR S w0 V g s o T0 p 0 p f new->Kb 73 #[.int .i32 (xp s p)] V fun e w'=>e=.returned (.int .i64 (B))/\Kc V w'):=fun V f new G=>by
  have h9:=ck s p F V (hK V (by obtain⟨vt,vo,vs,h1,h2⟩:=G.lq;exact h2.kp));rw[O]at h9;rw[aL F];exact h9
 have qB:((B:Int)==0)=false:=by simp;omega
 have aa:=ku fun V f new (G:aR S w0 V g s o T0 p 0 p f new)=>kt G F hs O I
 have ad:=ku (ei W false ⟨fun h=>(by cases h),fun h=>(by rw[u h.1]at h;cases h.2)⟩);have af:=ku fun V (G:aR S w0 V g s o T0 p 2 b f new)=>bx G hs M a1 (by decide) a2 rfl
 clear h hK a1 a2 u H J O I F
 go_enter func38,ntmps38
 go_wp2_with fail
 refine aH 0 2 rfl rfl ?_
 go_wp2_with fail
 go_step3
 refine⟨rfl,?_⟩
 go_wp2_with(first|(go_at_call 67;refine ad.out.mono ?_;rintro e w1⟨rfl,hw⟩;replace hw:=hw.symm;subst hw)|(go_at_call 65;refine(af.out _ ae.out).mono ?_;rintro e w3⟨rfl,r3a,r3b⟩;have r3:=r3a HP.out;obtain⟨y3,v3,g3⟩:=r3.cell;clear r3a r3b))
 go_step3
 refine⟨rfl,?_⟩
 go_wp2_with(first|(go_at_call 71;refine(ac.out _).mono ?_;rintro e w4⟨rfl,ag⟩;have r4:=aR.below r3 ag)|(go_at_call 73;refine(ab.out _ r4).mono ?_;rintro e w5⟨rfl,hb5⟩;have r5:=r4.below hb5;obtain⟨y5,v5,g5⟩:=r5.cell)|(go_at_call 64;refine(aa.out _ _ _ r5).mono ?_;intro e w9 hz;obtain⟨E,k',b',f',p',new',rfl,hz'⟩:=hz;have HF:Hid (aT S w0 g s o T0 p (.returned (.int .i64 E)) w9):=⟨E,k',b',f',p',new',rfl,hz'⟩;clear hz'))
 simp only[Exit.jump]
 go_ret
 exact HF.out
theorem xI {S:Nat->Prop}(h:aR S w0 W g s o T0 p 3 b f new) (hs:s.size<=2147483647) (hK:∀V,Kp S w0 V->fg V) (F:p<s.size) (J:av s p≠10) (aa:bJ (av s p)=false) (B:Nat) (hB:nF s p=B) (M:B≠0) (hl:p<s.size->s.extract b (p+dw s p)≠dj) (G:p<s.size->¬p-b<(sg (s.extract b (p+dw s p)) 0).size) :
  Kb 38 #[.pointer (some ⟨g,0,none⟩),.int .i32 (xp s p),.string (s.extract p (xq s p))] W fun e w'=>aT S w0 g s o T0 p e w':=by
 obtain⟨f1,f2,f3,f4,f5,f6⟩:=h.facts;obtain⟨c5,z5,hgl⟩:=h.cell
 have ak:IntKind.i64.wrap (xp s p)=xp s p:=by
  rw[Ki];have:=bL s p;unfold xp
  split<;>omega
 obtain⟨a1,a2⟩:=fs h.ms f4 hl G
 have u:b<s.size:=by
  cases h.ms with
  |sign e _ _=>omega
 have ag:=ku h;have HP:=ku F;have q1:(xp s p == -1)=false:=by rw[Kk,aL F];omega
 have al:(xp s p==10)=false:=by rw[Kk,aL F];exact fun e=>J ((co s p 10 (by decide)).1 e)
 have ae:Hid (∀V,Kb 71 #[.int .i32 (xp s p)] V fun e w'=>e=.returned (.bool false)/\Kc V w'):=fun V=>bN V F false aa.symm
 have ad:Hid (∀V,∀{f:Nat} {new:List Tk},aR S w0 V g s o T0 p 0 p f new->Kb 73 #[.int .i32 (xp s p)] V fun e w'=>e=.returned (.int .i64 (B))/\Kc V w'):=fun V f new H=>by
  have h9:=ck s p F V (hK V (by obtain⟨vt,vo,vs,h1,h2⟩:=H.lq;exact h2.kp));rw[hB]at h9;rw[aL F];exact h9
 have qB:((B:Int)==0)=false:=by simp;omega
 have ac:=ku fun V f new (H:aR S w0 V g s o T0 p 0 p f new)=>kt H F hs hB M
 have af:=eK (r:=false) h (by omega) u (by
  refine⟨fun e=>(by cases e),fun e=>?_⟩
  by_cases I:p<s.size
  ·rw[cr I]at e;exact absurd e (hl I)
  ·rw[dO (by omega)]at e;exact absurd e (fv h.ms))
 have ah:=fA (r:=false) h (by omega) u hK (by
  refine⟨fun e=>(by cases e),fun e=>?_⟩
  by_cases I:p<s.size
  ·rw[cr I]at e;exact absurd e (G I)
  ·rw[dO (by omega)]at e;exact absurd e (fu h.ms))
 have ai:=ku fun V (H:aR S w0 V g s o T0 p 3 b f new)=>bx H hs u a1 (by decide) a2 rfl
 clear h hK a1 a2 hl G J aa hB M F
 go_enter func38,ntmps38
 go_wp2_with fail
 refine aH 0 3 rfl rfl ?_
 go_wp2_with fail
 go_step3
 refine⟨rfl,?_⟩
 go_wp2_with(first|(go_at_call 68;refine af.out.mono ?_;rintro e w1⟨rfl,m1,ab⟩;have O:=dY W m1;rw[<-ab]at O;clear ab;have r1:=ag.out.below O;obtain⟨y1,v1,g1⟩:=r1.cell)|(go_at_call 69;refine(ah.out _ r1).mono ?_;rintro e w2⟨rfl,hb2⟩;have r2:=r1.below hb2;obtain⟨y2,v2,g2⟩:=r2.cell)|(go_at_call 65;refine(ai.out _ r2).mono ?_;rintro e w3⟨rfl,r3a,r3b⟩;have r3:=r3a HP.out;obtain⟨y3,v3,g3⟩:=r3.cell;clear r3a r3b))
 go_step3
 refine⟨rfl,?_⟩
 go_wp2_with(first|(go_at_call 71;refine(ae.out _).mono ?_;rintro e w4⟨rfl,aj⟩;have r4:=aR.below r3 aj)|(go_at_call 73;refine(ad.out _ r4).mono ?_;rintro e w5⟨rfl,hb5⟩;have r5:=r4.below hb5;obtain⟨y5,v5,g5⟩:=r5.cell)|(go_at_call 64;refine(ac.out _ _ _ r5).mono ?_;intro e w9 hz;obtain⟨E,k',b',f',p',new',rfl,hz'⟩:=hz;have HF:Hid (aT S w0 g s o T0 p (.returned (.int .i64 E)) w9):=⟨E,k',b',f',p',new',rfl,hz'⟩;clear hz'))
 simp only[Exit.jump]
 go_ret
 exact HF.out
theorem xP {S:Nat->Prop}(h:aR S w0 W g s o T0 p 1 b f new) (hs:s.size<=2147483647) (hK:∀V,Kp S w0 V->fg V) (G:p<s.size) (u:(gd s p&&jL (dp s p))=true) :
  Kb 38 #[.pointer (some ⟨g,0,none⟩),.int .i32 (xp s p),.string (s.extract p (xq s p))] W fun e w'=>aT S w0 g s o T0 p e w':=by
 obtain⟨f1,f2,f3,f4,f5,f6⟩:=h.facts;obtain⟨c5,z5,hgl⟩:=h.cell
 have aa:IntKind.i64.wrap (xp s p)=xp s p:=by
  rw[Ki];have:=bL s p;unfold xp
  split<;>omega
 have F:b<s.size:=by
  cases h.ms with
  |name e _ _=>omega
 obtain⟨M,O,a3⟩:=Ee h.ms G u;have J:=ku (fB W (hK W (by obtain⟨vt,vo,vs,h1,h2⟩:=h.lq;exact h2.kp)) true ⟨fun _=>⟨G,u⟩,fun _=>rfl⟩);have I:=ku (dZ (kk:=1) h h.lq G F (by omega) (by decide) (fun hx=>⟨M,O hx⟩) a3);clear h hK M O a3 u
 go_enter func38,ntmps38
 go_wp2_with fail
 refine aH 0 1 rfl rfl ?_
 go_wp2_with fail
 go_step3
 refine⟨rfl,?_⟩
 go_wp2_with(first|(go_at_call 63;refine J.out.mono ?_;rintro e w1⟨rfl,H⟩;replace H:=H.symm;subst H)|(go_at_call 64;refine I.out.mono ?_;intro e w9 hz;obtain⟨E,k',b',f',p',new',rfl,hz'⟩:=hz;have HF:Hid (aT S w0 g s o T0 p (.returned (.int .i64 E)) w9):=⟨E,k',b',f',p',new',rfl,hz'⟩;clear hz'))
 simp only[Exit.jump]
 go_ret
 exact HF.out
theorem xJ {S:Nat->Prop}(h:aR S w0 W g s o T0 p 2 b f new) (hs:s.size<=2147483647) (hK:∀V,Kp S w0 V->fg V) (G:p<s.size) (u:dh (av s p)=true) :
  Kb 38 #[.pointer (some ⟨g,0,none⟩),.int .i32 (xp s p),.string (s.extract p (xq s p))] W fun e w'=>aT S w0 g s o T0 p e w':=by
 obtain⟨f1,f2,f3,f4,f5,f6⟩:=h.facts;obtain⟨c5,z5,hgl⟩:=h.cell
 have aa:IntKind.i64.wrap (xp s p)=xp s p:=by
  rw[Ki];have:=bL s p;unfold xp
  split<;>omega
 have F:b<s.size:=by
  cases h.ms with
  |num e _ _=>omega
 obtain⟨M,O,a3⟩:=GQ h.ms G u;have J:=ku (ei W true ⟨fun _=>⟨G,u⟩,fun _=>rfl⟩);have I:=ku (dZ (kk:=3) h h.lq G F (by omega) (by decide) (fun hx=>⟨M,O hx⟩) a3);clear h hK M O a3 u
 go_enter func38,ntmps38
 go_wp2_with fail
 refine aH 0 2 rfl rfl ?_
 go_wp2_with fail
 go_step3
 refine⟨rfl,?_⟩
 go_wp2_with(first|(go_at_call 67;refine J.out.mono ?_;rintro e w1⟨rfl,H⟩;replace H:=H.symm;subst H)|(go_at_call 64;refine I.out.mono ?_;intro e w9 hz;obtain⟨E,k',b',f',p',new',rfl,hz'⟩:=hz;have HF:Hid (aT S w0 g s o T0 p (.returned (.int .i64 E)) w9):=⟨E,k',b',f',p',new',rfl,hz'⟩;clear hz'))
 simp only[Exit.jump]
 go_ret
 exact HF.out
theorem xB {S:Nat->Prop}(h:aR S w0 W g s o T0 p 4 b f new) (hs:s.size<=2147483647) (hK:∀V,Kp S w0 V->fg V) (hp:p<s.size) (u:av s p≠10) :
  Kb 38 #[.pointer (some ⟨g,0,none⟩),.int .i32 (xp s p),.string (s.extract p (xq s p))] W fun e w'=>aT S w0 g s o T0 p e w':=by
 obtain⟨f1,f2,f3,f4,f5,f6⟩:=h.facts;obtain⟨c5,z5,hgl⟩:=h.cell
 have aa:IntKind.i64.wrap (xp s p)=xp s p:=by
  rw[Ki];have:=bL s p;unfold xp
  split<;>omega
 have F:b<s.size:=by
  cases h.ms with
  |line e _ _=>omega
 obtain⟨J,M,O⟩:=Ej h.ms hp u;have I:Hid (Kb 70 #[.int .i32 (xp s p)] W fun e w'=>e=.returned (.bool false)/\w'=W):=cV W false ⟨fun h=>(by cases h),fun h=>(by rcases h with h|h;omega;exact absurd h u)⟩;have H:=ku (dZ (kk:=7) h h.lq hp F (by omega) (by decide) (fun hx=>⟨J,M hx⟩) O);clear h hK J M O u
 go_enter func38,ntmps38
 go_wp2_with fail
 refine aN 4 rfl ?_
 go_wp2_with fail
 go_step3
 refine⟨rfl,?_⟩
 go_wp2_with(first|(go_at_call 70;refine I.out.mono ?_;rintro e w1⟨rfl,G⟩;replace G:=G.symm;subst G)|(go_at_call 64;refine H.out.mono ?_;intro e w9 hz;obtain⟨E,k',b',f',p',new',rfl,hz'⟩:=hz;have HF:Hid (aT S w0 g s o T0 p (.returned (.int .i64 E)) w9):=⟨E,k',b',f',p',new',rfl,hz'⟩;clear hz'))
 simp only[Exit.jump]
 go_ret
 exact HF.out
theorem qS {S:Nat->Prop}(h:aR S w0 W g s o T0 p 3 b f new) (hs:s.size<=2147483647) (hK:∀V,Kp S w0 V->fg V) (I:p<s.size) (F:s.extract b (p+dw s p)=dj) :
  Kb 38 #[.pointer (some ⟨g,0,none⟩),.int .i32 (xp s p),.string (s.extract p (xq s p))] W fun e w'=>aT S w0 g s o T0 p e w':=by
 obtain⟨f1,f2,f3,f4,f5,f6⟩:=h.facts;obtain⟨c5,z5,hgl⟩:=h.cell
 have aa:IntKind.i64.wrap (xp s p)=xp s p:=by
  rw[Ki];have:=bL s p;unfold xp
  split<;>omega
 have u:b<s.size:=by
  cases h.ms with
  |sign e _ _=>omega
 obtain⟨a1,a2⟩:=wX h.ms I F;have O:=ku h;have M:=eK (r:=true) h (by omega) u ⟨fun _=>(by rw[cr I];exact F),fun _=>rfl⟩;have J:=ku fun V (hV:aR S w0 V g s o T0 p 3 b f new)=>dZ (kk:=7) hV (hV.setK 4) I u (by omega) (by decide) (fun hx=>absurd hx a2) (fun _=>a1)
 clear h hK a1 a2 F
 go_enter func38,ntmps38
 go_wp2_with fail
 refine aH 0 3 rfl rfl ?_
 go_wp2_with fail
 go_step3
 refine⟨rfl,?_⟩
 go_wp2_with(first|(go_at_call 68;refine M.out.mono ?_;rintro e w1⟨rfl,m1,H⟩;have G:=dY W m1;rw[<-H]at G;clear H;have r1:=O.out.below G;obtain⟨y1,v1,g1⟩:=r1.cell)|(go_at_call 64;refine(J.out _ r1).mono ?_;intro e w9 hz;obtain⟨E,k',b',f',p',new',rfl,hz'⟩:=hz;have HF:Hid (aT S w0 g s o T0 p (.returned (.int .i64 E)) w9):=⟨E,k',b',f',p',new',rfl,hz'⟩;clear hz'))
 simp only[Exit.jump]
 go_ret
 exact HF.out
theorem xD {S:Nat->Prop}(h:aR S w0 W g s o T0 p 3 b f new) (hs:s.size<=2147483647) (hK:∀V,Kp S w0 V->fg V) (I:p<s.size) (hl:s.extract b (p+dw s p)≠dj) (F:p-b<(sg (s.extract b (p+dw s p)) 0).size) :
  Kb 38 #[.pointer (some ⟨g,0,none⟩),.int .i32 (xp s p),.string (s.extract p (xq s p))] W fun e w'=>aT S w0 g s o T0 p e w':=by
 obtain⟨f1,f2,f3,f4,f5,f6⟩:=h.facts;obtain⟨c5,z5,hgl⟩:=h.cell
 have ac:IntKind.i64.wrap (xp s p)=xp s p:=by
  rw[Ki];have:=bL s p;unfold xp
  split<;>omega
 have u:b<s.size:=by
  cases h.ms with
  |sign e _ _=>omega
 obtain⟨a1,a2⟩:=Dz h.ms I F;have aa:=ku h;have O:=eK (r:=false) h (by omega) u ⟨fun e=>(by cases e),fun e=>(by rw[cr I]at e;exact absurd e hl)⟩;have ab:=fA (r:=true) h (by omega) u hK ⟨fun _=>(by rw[cr I];exact F),fun _=>rfl⟩;have M:=ku fun V (hV:aR S w0 V g s o T0 p 3 b f new)=>dZ (kk:=6) hV hV.lq I u (by omega) (by decide) (fun hx=>absurd hx a2) (fun _=>a1)
 clear h hK a1 a2 F hl
 go_enter func38,ntmps38
 go_wp2_with fail
 refine aH 0 3 rfl rfl ?_
 go_wp2_with fail
 go_step3
 refine⟨rfl,?_⟩
 go_wp2_with(first|(go_at_call 68;refine O.out.mono ?_;rintro e w1⟨rfl,m1,H⟩;have G:=dY W m1;rw[<-H]at G;clear H;have J:=aa.out.below G;obtain⟨y1,v1,g1⟩:=J.cell)|(go_at_call 69;refine(ab.out _ J).mono ?_;rintro e w2⟨rfl,hb2⟩;have r2:=J.below hb2;obtain⟨y2,v2,g2⟩:=r2.cell)|(go_at_call 64;refine(M.out _ r2).mono ?_;intro e w9 hz;obtain⟨E,k',b',f',p',new',rfl,hz'⟩:=hz;have HF:Hid (aT S w0 g s o T0 p (.returned (.int .i64 E)) w9):=⟨E,k',b',f',p',new',rfl,hz'⟩;clear hz'))
 simp only[Exit.jump]
 go_ret
 exact HF.out
