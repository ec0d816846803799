import Derived.Test.YthfjlkfeeglfmaaGreatDoorM06
set_option linter.all false
set_option maxHeartbeats 8000000
namespace Go.Proofs.YthfjlkfeeglfmaaGreatDoor.Lx
open Go.RowKit
variable {s:ByteArray}{a g b f:Nat}{w0 W W':World}{l:List Tv}
def DK (s:ByteArray) (a:Nat):au s a=0\/au s a=1\/au s a=3\/au s a=4\/au s a=5\/au s a=6\/au s a=7\/au s a=8:=by
 unfold au
 repeat' split
 all_goals simp
def bq {k:Nat}(h:au s a=k):(k≠1->(gd s a&&jL (dp s a))=false)/\(k≠1->k≠3->dF (aK s a)=false)/\(k≠1->k≠3->k≠4->aK s a≠34)/\(k≠1->k≠3->k≠4->k≠5->aK s a≠39) /\
  (k≠1->k≠3->k≠4->k≠5->k≠7->¬(aK s a=47/\a+1<s.size/\aK s (a+1)=47))/\(k≠1->k≠3->k≠4->k≠5->k≠7->k≠8->aK s a≠123)/\(k≠1->k≠3->k≠4->k≠5->k≠7->k≠8->k≠6->(sg s a).size=0):=by
 unfold au at h
 by_cases c1:(gd s a&&jL (dp s a))=true
 ·grind
 ·rw[Eq c1]at h;have u:(gd s a&&jL (dp s a))=false:=by simpa using c1
  by_cases c2:dF (aK s a)=true
  ·grind
  ·grind
def sI :pre s a ⟨#[47,47]⟩=decide (aK s a=47/\a+1<s.size/\aK s (a+1)=47):=by
 unfold pre;rw[SZ];have O:(⟨#[47,47]⟩:ByteArray).size=2:=rfl;rw[O];constructor
 ·rintro⟨H,I⟩;have u:=bX s a (a+2) 0 (by omega);have G:=bX s a (a+2) 1 (by omega);rw[I]at u G;exact⟨by rw[show a=a+0 by omega,<-u];rfl,by omega,by rw[<-G];rfl⟩
 ·rintro⟨H,I,J⟩;refine⟨by omega,kY _ _ (by rw[aE s _ _ (by omega)];show a+2-a=2;omega) (λj M=>?_)⟩;rw[aE s _ _ (by omega)]at M;rw[bX s a _ j (by omega)]
  rcases(show j=0\/j=1 by omega)with rfl|rfl
  ·rw[Ua,H];rfl
  ·rw[J];rfl
def QK (u:au s a=7) (d1:a<s.size):pre s a ⟨#[47,47]⟩=true:=by rw[sI];exact R8 (Ov u)
def QL (u:au s a=6) (d1:a<s.size):pre s a ⟨#[47,47]⟩=false:=by rw[sI];exact R9 ((bq u).2.2.2.2.1 (by decide) (by decide) (by decide) (by decide) (by decide))
def QM (u:au s a=0) (d1:a<s.size):pre s a ⟨#[47,47]⟩=false:=by rw[sI];exact R9 ((bq u).2.2.2.2.1 (by decide) (by decide) (by decide) (by decide) (by decide))
def QT (u:au s a=1):(gd s a&&jL (dp s a))=true:=PW u
def Q1 (u:au s a=3):dF (aK s a)=true:=PV u
def QS (u:au s a=3):(gd s a&&jL (dp s a))=false:=(bq u).1 (by decide)
def QR (u:au s a=4):(gd s a&&jL (dp s a))=false:=(bq u).1 (by decide)
def QQ (u:au s a=5):(gd s a&&jL (dp s a))=false:=(bq u).1 (by decide)
def QO (u:au s a=7):(gd s a&&jL (dp s a))=false:=(bq u).1 (by decide)
def QN (u:au s a=8):(gd s a&&jL (dp s a))=false:=(bq u).1 (by decide)
def QP (u:au s a=6):(gd s a&&jL (dp s a))=false:=(bq u).1 (by decide)
def QU (u:au s a=0):(gd s a&&jL (dp s a))=false:=(bq u).1 (by decide)
def Q0 (u:au s a=4):dF (aK s a)=false:=(bq u).2.1 (by decide) (by decide)
def QZ (u:au s a=5):dF (aK s a)=false:=(bq u).2.1 (by decide) (by decide)
def QX (u:au s a=7):dF (aK s a)=false:=(bq u).2.1 (by decide) (by decide)
def QW (u:au s a=8):dF (aK s a)=false:=(bq u).2.1 (by decide) (by decide)
def QY (u:au s a=6):dF (aK s a)=false:=(bq u).2.1 (by decide) (by decide)
def Q6 (u:au s a=0):dF (aK s a)=false:=(bq u).2.1 (by decide) (by decide)
def QI (u:au s a=5):aK s a≠34:=(bq u).2.2.1 (by decide) (by decide) (by decide)
def QG (u:au s a=7):aK s a≠34:=(bq u).2.2.1 (by decide) (by decide) (by decide)
def QF (u:au s a=8):aK s a≠34:=(bq u).2.2.1 (by decide) (by decide) (by decide)
def QH (u:au s a=6):aK s a≠34:=(bq u).2.2.1 (by decide) (by decide) (by decide)
def QJ (u:au s a=0):aK s a≠34:=(bq u).2.2.1 (by decide) (by decide) (by decide)
def Q9 (u:au s a=7):aK s a≠39:=(bq u).2.2.2.1 (by decide) (by decide) (by decide) (by decide)
def Q7 (u:au s a=8):aK s a≠39:=(bq u).2.2.2.1 (by decide) (by decide) (by decide) (by decide)
def Ra (u:au s a=6):aK s a≠39:=(bq u).2.2.2.1 (by decide) (by decide) (by decide) (by decide)
def Rf (u:au s a=0):aK s a≠39:=(bq u).2.2.2.1 (by decide) (by decide) (by decide) (by decide)
def Rg (u:au s a=7):aK s a≠123:=by rw[(Ov u).1];decide
def Rh (u:au s a=6):aK s a≠123:=(bq u).2.2.2.2.2.1 (by decide) (by decide) (by decide) (by decide) (by decide) (by decide)
def Ri (u:au s a=0):aK s a≠123:=(bq u).2.2.2.2.2.1 (by decide) (by decide) (by decide) (by decide) (by decide) (by decide)
def QE (u:au s a=0):(sg s a).size=0:=(bq u).2.2.2.2.2.2 (by decide) (by decide) (by decide) (by decide) (by decide) (by decide) (by decide)
structure JR (w0 W:World) (g:Nat) (s:ByteArray) (a b f:Nat) (l:List Tv):Prop where
 asz:a<=s.size
 ba:b<=a
 bda:bd s a
 bdb:bd s b
 rs:Rs w0 W g s a b f l
 fa:f<=a
 la:l.length<=a
 toks:l++(yJ s a f).1.map (tv s)=(fY s).1.map (tv s)
 err:(yJ s a f).2=(fY s).2
def RP (w0 w':World) (g:Nat) (s:ByteArray):Prop:=∃a' b' f',Rs w0 w' g s a' b' f' ((fY s).1.map (tv s))/\bd s a'/\bd s b'/\b'<=a'/\((fY s).2.1=102->a'=(fY s).2.2)/\((fY s).2.1≠0->(fY s).2.1≠102->b'=(fY s).2.2)
def JR.done (h:JR w0 W g s a b f l) (H:s.size<=a):RP w0 W g s/\(fY s).2.1=0:=by
 have e:=kN s a f H;have G:=h.toks;have u:=h.err;rw[e]at G u;rw[VS,Sg]at G;refine⟨⟨a,b,f,by rw[<-G];exact h.rs,h.bda,h.bdb,h.ba,?_,?_⟩,by rw[<-u]⟩
 ·rw[<-u];intro h;cases h
 ·rw[<-u];intro h;exact absurd rfl h
def JR.feed (h:JR w0 W g s a b f l) (u:a<s.size) (G:aK s a=10) (H:Rs w0 W' g s (a+eH s a) b (if aY s a=10 then f+1 else f) l):JR w0 W' g s (a+1) b (f+1) l:=by
 have e:=eK s a f u;rw[Or G]at e;have I:aY s a=10:=(bB s a 10 (by decide) u).2 G;rw[Or I,bW u,(bZ s a (by omega)).1]at H;have J:=h.ba;have M:=h.fa;have O:=h.la;exact⟨u,by omega,(jZ s a u (by omega)).2,h.bdb,H,by omega,by omega,by rw[<-e];exact h.toks,by rw[<-e];exact h.err⟩
def JR.blank (h:JR w0 W g s a b f l) (u:a<s.size) (G:aK s a≠10) (H:dY (aK s a)=true) (M:Rs w0 W' g s (a+eH s a) b (if aY s a=10 then f+1 else f) l):JR w0 W' g s (a+1) b f l:=by
 have e:=eK s a f u;rw[Eq G,Or H]at e;have J:=Ou H;have I:¬aY s a=10:=λh=>G ((bB s a 10 (by decide) u).1 h)
 rw[Eq I,bW u,(bZ s a J).1]at M;have O:=h.ba;have Q:=h.fa;have S:=h.la;exact⟨u,by omega,(jZ s a u J).2,h.bdb,M,by omega,by omega,by rw[<-e];exact h.toks,by rw[<-e];exact h.err⟩
def JR.tok (h:JR w0 W g s a b f l) (I:a<s.size) (O:aK s a≠10) (Q:dY (aK s a)=false) {k:Nat}(J:au s a=k) (u:k≠0) (G:(aq s a k).2=0) (H:TP w0 W' g s k a f l) :
  JR w0 W' g s (aq s a k).1 a 0 (l++[tv s (dM s k a (aq s a k).1 f)])/\a<(aq s a k).1:=by
 have e:=eK s a f I;have M:=gn s a k (aq s a k).1 I J u (W6 rfl G);have S:bd s (aq s a k).1:=Oa h.bda I J u rfl;unfold TP at H;rw[Or G]at H;rw[Eq O,Eq (by rw[Q];decide),J,Eq u,Eq (by rw[G];decide)]at e;have Y:=h.la;refine⟨⟨M.2,Tl M.1,S,h.bda,H,RU _,by rw[IO];simp;omega,?_,?_⟩,M.1⟩
 ·have:=h.toks;rw[e]at this;rw[<-this];simp
 ·have:=h.err;rw[e]at this;exact this
def JR.bad (h:JR w0 W g s a b f l) (Y:a<s.size) (O:aK s a≠10) (Q:dY (aK s a)=false) {k:Nat}(hk:au s a=k) (h0:k≠0) (J:(aq s a k).2≠0) (M:TP w0 W' g s k a f l) :
  RP w0 W' g s/\(fY s).2.1=(aq s a k).2:=by
 have e:=eK s a f Y;unfold TP at M;rw[Eq J]at M;rw[Eq O,Eq (by rw[Q];decide),hk,Eq h0,Or J]at e;have H:=h.toks;have u:=h.err;rw[e]at H u;rw[VS,Sg]at H;obtain⟨Z,t1,t2,t3,t4⟩:=M;have G:(fY s).2.1=(aq s a k).2:=by rw[<-u]
 have S:(fY s).2.2=(aq s a k).1:=by rw[<-u]
 refine⟨⟨Z,a,f,by rw[<-H];exact t3,t1,h.bda,t2,λh=>?_,λ_ u=>?_⟩,G⟩
 ·rw[S];exact t4 (by rw[<-G];exact h)
 ·rw[S]
  rcases K8 (p:=(aq s a k).1) (e:=(aq s a k).2) Y rfl J with⟨I,_⟩|⟨I,_⟩
  ·exact I.symm
  ·exact absurd (by rw[G];exact I) u
def JR.none (h:JR w0 W g s a b f l) (J:a<s.size) (H:aK s a≠10) (I:dY (aK s a)=false) (M:au s a=0) (O:Rs w0 W' g s a a f l) :
  RP w0 W' g s/\(fY s).2.1=100:=by
 have e:=eK s a f J;rw[Eq H,Eq (by rw[I];decide),Or M]at e;have G:=h.toks;have u:=h.err;rw[e]at G u;rw[VS,Sg]at G;refine⟨⟨a,a,f,by rw[<-G];exact O,h.bda,h.bda,ge _,?_,?_⟩,by rw[<-u]⟩
 ·rw[<-u];intro h;cases h
 ·rw[<-u];intro _ _;rfl
def pZ {P:Program}{a:Act}{w:World}{Q:Exit->Act->World->Prop}{r rest:Code}(l:Nat) (J:Act->World->Prop) (μ:Act->World->Nat) (M:findLabel (r.seq ((Code.label l).seq rest)) l=some (Code.skip.seq rest))
  (first:r.wp P (Exit.then (λa w=>J a w) (λ_ _ _=>False)) a w)
  (u:∀a w,J a w->rest.wp P (Exit.jump l (λH w'=>J H w'/\μ H w' < μ a w) Q) a w):(Code.scope (r.seq ((Code.label l).seq rest))).wp P Q a w:=by
 refine Ux l J μ M ?_ (λa w h=>wp_seq (wp_skip (u a w h)));refine wp_seq (wp_mono first ?_);intro e H w' h;cases e with
 |normal=>
  refine wp_seq (wp_label ?_);refine wp_mono (u H w' h) ?_;intro I O w2 G;cases I with
  |goto l'=>exact⟨G.1,G.2.1⟩
  |normal=>exact G
  |exit id=>exact G
  |ret=>exact G
  |panic ch=>exact G
  |outgrown=>exact G
 |goto l'=>exact h.elim
 |exit id=>exact h.elim
 |ret=>exact h.elim
 |panic ch=>exact h.elim
 |outgrown=>exact h.elim
set_option maxRecDepth 100000 in
def oP (hK:pT w0) (h:Rs w0 W g s 0 0 0 []) (hs:s.size<=2147483647) :
  Sa 67 #[.pointer (some (Tw g 0))] W λe w'=>Uk e (Tu ((fY s).2.1:Nat))/\RP w0 w' g s:=by
 have ba:Hid (JR w0 W g s 0 0 0 []):=⟨RU _,ge _,t8 s,t8 s,h,ge _,ge _,rfl,rfl⟩
 have HC:Hid (∀V a b,∀{f:Nat} {l:List Tv},Rs w0 V g s a b f l->V.cell? (Tw g 0)=some (.string s)/\V.cell? (Tw g 1)=some (Tu a)/\V.cell? (Tw g 2)=some (.int .i32 (aY s a))):=λV a b f l hr=>by
  obtain⟨bd,be,v,h3,h4⟩:=hr;exact⟨(Rq.cells h3).1,(Rq.cells h3).2.1,(Rq.cells h3).2.2.1⟩
 clear h;go_enter Tryz.func67,Tryz.ntmps67;(go_wp2_with fail);refine pZ 0 (λa' w'=>∃(a b f:Nat) (l:List Tv) (u1 u2 u3 u4 u5 u6 u7 u8 u9 u10 u11 u12 u13 u14 u15 u16 u17 u18 u19 u20 u21 u22 u23 u24 u25 u26 u27 u28 u29 u30 u31 u32 u33 u34 u35 u36 u37 u38 u39 u40 u41 u42 u43 u44 u45 u46 u47 u48 u49 u50 u51 u52 u53 u54 u55 u56 u57 u58 u59 u60 u61 u62 u63 u64 u65 u66 u67 u68 u69 u70 u71 u72 u73 u74 u75 u76 u77 u78 u79 u80 u81 u82:Value),Hid (JR w0 w' g s a b f l)/\a'={ tmps:=#[.pointer (some (Tw g 0)),u1,u2,u3,u4,u5,u6,u7,u8,u9,u10,u11,u12,u13,u14,u15,u16,u17,u18,u19,u20,u21,u22,u23,u24,u25,u26,u27,u28,u29,u30,u31,u32,u33,u34,u35,u36,u37,u38,u39,u40,u41,u42,u43,u44,u45,u46,u47,u48,u49,u50,u51,u52,u53,u54,u55,u56,u57,u58,u59,u60,u61,u62,u63,u64,u65,u66,u67,u68,u69,u70,u71,u72,u73,u74,u75,u76,u77,u78,u79,u80,u81,u82],defers:=[] }) (λ_ w'=>s.size-dD w' g 1) rfl ?_ ?_
 ·(go_wp2_with fail);exact⟨0,0,0,[],_,_,_,_,_,_,_,_,_,_,_,_,_,_,_,_,_,_,_,_,_,_,_,_,_,_,_,_,_,_,_,_,_,_,_,_,_,_,_,_,_,_,_,_,_,_,_,_,_,_,_,_,_,_,_,_,_,_,_,_,_,_,_,_,_,_,_,_,_,_,_,_,_,_,_,_,_,_,_,_,_,_,ba,rfl⟩
 ·rintro a' w'⟨a,b,f,l,u1,u2,u3,u4,u5,u6,u7,u8,u9,u10,u11,u12,u13,u14,u15,u16,u17,u18,u19,u20,u21,u22,u23,u24,u25,u26,u27,u28,u29,u30,u31,u32,u33,u34,u35,u36,u37,u38,u39,u40,u41,u42,u43,u44,u45,u46,u47,u48,u49,u50,u51,u52,u53,u54,u55,u56,u57,u58,u59,u60,u61,u62,u63,u64,u65,u66,u67,u68,u69,u70,u71,u72,u73,u74,u75,u76,u77,u78,u79,u80,u81,u82,HJ,rfl⟩;have HX:=aW HJ.out.rs.at;have HR:=aW HJ.out.rs;have z0:=(HC.out _ _ _ HR.out).2.2;have bg:=HJ.out.la;have bf:=HJ.out.fa;have ap:=HJ.out.asz
  by_cases hd:s.size<=a
  ·rw[(cN s a).2 hd]at z0;have HE:=HJ.out.done hd;have ad:=aW HE;clear HE hd;(go_wp2_with fail);simp only[Exit.jump];go_ret;rw[ad.out.2];exact⟨rfl,ad.out.1⟩
  ·have d1:a<s.size:=by omega
   have e0:(aY s a == -1)=false:=by rw[Su];exact λh=>hd ((cN s a).1 h)
   have rg:=Ab s a;have ay:0<=aY s a:=by rw[fZ d1];omega
   have bc:=vQ HR.out (by omega) ap (by omega);have av:=aW λV (H:Rs w0 V g s a b f l)=>vQ H (by omega) ap (by omega)
   clear bc
   by_cases Z:aK s a=10
   ·have ax:aY s a=10:=(bB s a 10 (by decide) d1).2 Z;have ar:=aW λV (H:Rs w0 V g s (a+eH s a) b (if aY s a=10 then f+1 else f) l)=>HJ.out.feed d1 Z H
    rw[ax]at z0;clear Z hd e0
    go_wp2_with(first|(go_at_call 125;refine(av.out _ HR.out).mono ?_;rintro e w1⟨rfl,Q⟩;have hj:=ar.out _ Q))
    go_step3
    refine⟨rfl,⟨a+1,b,f+1,l,_,_,_,_,_,_,_,_,_,_,_,_,_,_,_,_,_,_,_,_,_,_,_,_,_,_,_,_,_,_,_,_,_,_,_,_,_,_,_,_,_,_,_,_,_,_,_,_,_,_,_,_,_,_,_,_,_,_,_,_,_,_,_,_,_,_,_,_,_,_,_,_,_,_,_,_,_,_,_,_,_,_,hj,rfl⟩,?_⟩;rw[HX.out,hj.rs.at];omega
   ·have ax:(aY s a==10)=false:=by rw[Su];exact λh=>Z ((bB s a 10 (by decide) d1).1 h)
    have al:=PP s a d1
    by_cases af:dY (aK s a)=true
    ·have aj:Hid (∀V,Sa 124 #[.int .i32 (aY s a)] V λe w'=>Uk e (.bool true)/\Se V w'):=λV=>by
      rw[<-af,<-al];exact mJ _ _ ay
     have ar:=aW λV (H:Rs w0 V g s (a+eH s a) b (if aY s a=10 then f+1 else f) l)=>HJ.out.blank d1 Z af H
     clear Z hd af al
     go_wp2_with(first|(go_at_call 124;refine(aj.out _).mono ?_;rintro e w1⟨rfl,ae⟩;have Q:=Rq.below HR.out ae;have z1:=(HC.out _ _ _ Q).2.2)|(go_at_call 125;refine(av.out _ Q).mono ?_;rintro e w2⟨rfl,hr2⟩;have hj:=ar.out _ hr2))
     go_step3
     refine⟨rfl,⟨a+1,b,f,l,_,_,_,_,_,_,_,_,_,_,_,_,_,_,_,_,_,_,_,_,_,_,_,_,_,_,_,_,_,_,_,_,_,_,_,_,_,_,_,_,_,_,_,_,_,_,_,_,_,_,_,_,_,_,_,_,_,_,_,_,_,_,_,_,_,_,_,_,_,_,_,_,_,_,_,_,_,_,_,_,_,_,hj,rfl⟩,?_⟩;rw[HX.out,hj.rs.at];omega
    ·have ah:dY (aK s a)=false:=by simpa using af
     have aj:Hid (∀V,Sa 124 #[.int .i32 (aY s a)] V λe w'=>Uk e (.bool false)/\Se V w'):=λV=>by
      rw[<-ah,<-al];exact mJ _ _ ay
     have J:=HJ.out.bda;have aw:=aW λV (H:Rs w0 V g s a b f l)=>JG H (by omega) HJ.out.ba HJ.out.bdb J
     have bi:IntKind.i64.wrap (aY s a)=aY s a:=by rw[Sn];omega
     have ac:l.length<=2147483647:=by omega
     have HN:Hid (aK s a≠10/\dY (aK s a)=false):=⟨Z,ah⟩;have ab:s.size<=2147483647:=by omega
     have qs:(a:Int)<=s.size:=by omega
     have an:=DK s a;clear Z hd af ah al av
     rcases an with u|u|u|u|u|u|u|u
     ·have S:Hid (∀V,Rs w0 V g s a a f l->Sa 127 #[Tu (aY s a)] V λe w'=>Uk e (.bool false)/\w'=V):=λV H=>by
       have G:=cK (aY s a) V (hK.below H.bel).1;rw[show jL (aY s a)=false by rw[dC s a d1];exact QU u]at G;exact G
      have Y:Hid (∀V,Sa 128 #[.int .i32 (aY s a)] V λe w'=>Uk e (.bool false)/\w'=V):=λV=>by
       have G:=bG (aY s a) V;rw[dg,R8 d1,TB,show dF (aK s a)=false from Q6 u]at G;exact G
      have ag:(aY s a==34)=false:=by rw[Su];exact λh=>QJ u ((bB s a 34 (by decide) d1).1 h)
      have am:(aY s a==39)=false:=by rw[Su];exact λh=>Rf u ((bB s a 39 (by decide) d1).1 h)
      have ai:(aY s a==123)=false:=by rw[Su];exact λh=>Ri u ((bB s a 123 (by decide) d1).1 h)
      have ak:Hid (∀V,Sa 101 #[.string (s.extract a s.size),.string ⟨#[47,47]⟩] V λe w'=>Uk e (.bool false)/\w'=V):=λV=>by
       have G:=sY (s.extract a s.size) ⟨#[47,47]⟩ V;rw[kx s _ a (by omega),show pre s a ⟨#[47,47]⟩=false from QM u d1]at G;exact G
      have I:=aW λV (H:Rs w0 V g s a a f l)=>Cc hK H ab d1 (QE u)
      have ad:=aW λV (H:Rs w0 V g s a a f l)=>HJ.out.none d1 HN.out.1 HN.out.2 u H
      clear u J
      go_wp2_with(first|(go_at_call 124;refine(aj.out _).mono ?_;rintro e w1⟨rfl,ae⟩;have Q:=Rq.below HR.out ae;have z1:=(HC.out _ _ _ Q).2.2)|(go_at_call 126;refine(aw.out _ Q).mono ?_;rintro e w2⟨rfl,hr2⟩;obtain⟨y0,y1,y2⟩:=HC.out _ _ _ hr2)|(go_at_call 127;refine(S.out _ hr2).mono ?_;rintro e w3⟨rfl,hw⟩;replace hw:=hw.symm;subst hw)|(go_at_call 128;refine(Y.out _).mono ?_;rintro e w4⟨rfl,hw⟩;replace hw:=hw.symm;subst hw))
      go_quiet ((go_at_call 101;exact Calls.quiet_of_same (ak.out _)))
      go_wp2_with(first|(go_at_call 132;refine(I.out _ (Rq.below hr2 (dv _ _))).mono ?_;rintro e w5⟨rfl,aa⟩))
      simp only[Exit.jump];go_ret;rw[(ad.out _ aa).2];exact⟨rfl,(ad.out _ aa).1⟩
     have S:Hid (∀V,Rs w0 V g s a a f l->Sa 127 #[Tu (aY s a)] V λe w'=>Uk e (.bool true)/\w'=V):=λV H=>by
      have G:=cK (aY s a) V (hK.below H.bel).1;rw[show jL (aY s a)=true by rw[dC s a d1];exact QT u]at G;exact G
     obtain⟨E,M⟩:=ea ((aq s a 1).2)
     have I:Hid (∀V,Rs w0 V g s a a f l->Sa 129 #[.pointer (some (Tw g 0))] V λe w'=>Uk e (Tu (E:Nat))/\TP w0 w' g s 1 a f l):=λV H=>by
      rw[<-M];exact F4 hK H ab d1 J u ac
     have O:Hid (au s a=1/\(aq s a 1).2=E):=⟨u,M⟩;clear u J M;rotate_left
     have S:Hid (∀V,Rs w0 V g s a a f l->Sa 127 #[Tu (aY s a)] V λe w'=>Uk e (.bool false)/\w'=V):=λV H=>by
      have G:=cK (aY s a) V (hK.below H.bel).1;rw[show jL (aY s a)=false by rw[dC s a d1];exact QS u]at G;exact G
     have Y:Hid (∀V,Sa 128 #[.int .i32 (aY s a)] V λe w'=>Uk e (.bool true)/\w'=V):=λV=>by
      have G:=bG (aY s a) V;rw[dg,R8 d1,TB,show dF (aK s a)=true from Q1 u]at G;exact G
     obtain⟨E,M⟩:=ea ((aq s a 3).2)
     have I:Hid (∀V,Rs w0 V g s a a f l->Sa 129 #[.pointer (some (Tw g 0))] V λe w'=>Uk e (Tu (E:Nat))/\TP w0 w' g s 3 a f l):=λV H=>by
      rw[<-M];exact Kq H ab d1 J u ac
     have O:Hid (au s a=3/\(aq s a 3).2=E):=⟨u,M⟩;clear u J M;rotate_left
     have S:Hid (∀V,Rs w0 V g s a a f l->Sa 127 #[Tu (aY s a)] V λe w'=>Uk e (.bool false)/\w'=V):=λV H=>by
      have G:=cK (aY s a) V (hK.below H.bel).1;rw[show jL (aY s a)=false by rw[dC s a d1];exact QR u]at G;exact G
     have Y:Hid (∀V,Sa 128 #[.int .i32 (aY s a)] V λe w'=>Uk e (.bool false)/\w'=V):=λV=>by
      have G:=bG (aY s a) V;rw[dg,R8 d1,TB,show dF (aK s a)=false from Q0 u]at G;exact G
     have ag:(aY s a==34)=true:=by rw[T8];exact(bB s a 34 (by decide) d1).2 (PU u)
     obtain⟨E,M⟩:=ea ((aq s a 4).2)
     have I:Hid (∀V,Rs w0 V g s a a f l->Sa 130 #[.pointer (some (Tw g 0))] V λe w'=>Uk e (Tu (E:Nat))/\TP w0 w' g s 4 a f l):=λV H=>by
      rw[<-M];exact Ef H ab d1 J u ac
     have O:Hid (au s a=4/\(aq s a 4).2=E):=⟨u,M⟩;clear u J M;rotate_left
     have S:Hid (∀V,Rs w0 V g s a a f l->Sa 127 #[Tu (aY s a)] V λe w'=>Uk e (.bool false)/\w'=V):=λV H=>by
      have G:=cK (aY s a) V (hK.below H.bel).1;rw[show jL (aY s a)=false by rw[dC s a d1];exact QQ u]at G;exact G
     have Y:Hid (∀V,Sa 128 #[.int .i32 (aY s a)] V λe w'=>Uk e (.bool false)/\w'=V):=λV=>by
      have G:=bG (aY s a) V;rw[dg,R8 d1,TB,show dF (aK s a)=false from QZ u]at G;exact G
     have ag:(aY s a==34)=false:=by rw[Su];exact λh=>QI u ((bB s a 34 (by decide) d1).1 h)
     have am:(aY s a==39)=true:=by rw[T8];exact(bB s a 39 (by decide) d1).2 (PT u)
     obtain⟨E,M⟩:=ea ((aq s a 5).2)
     have I:Hid (∀V,Rs w0 V g s a a f l->Sa 130 #[.pointer (some (Tw g 0))] V λe w'=>Uk e (Tu (E:Nat))/\TP w0 w' g s 5 a f l):=λV H=>by
      rw[<-M];exact Ih H ab d1 J u ac
     have O:Hid (au s a=5/\(aq s a 5).2=E):=⟨u,M⟩;clear u J M;rotate_left
     have S:Hid (∀V,Rs w0 V g s a a f l->Sa 127 #[Tu (aY s a)] V λe w'=>Uk e (.bool false)/\w'=V):=λV H=>by
      have G:=cK (aY s a) V (hK.below H.bel).1;rw[show jL (aY s a)=false by rw[dC s a d1];exact QP u]at G;exact G
     have Y:Hid (∀V,Sa 128 #[.int .i32 (aY s a)] V λe w'=>Uk e (.bool false)/\w'=V):=λV=>by
      have G:=bG (aY s a) V;rw[dg,R8 d1,TB,show dF (aK s a)=false from QY u]at G;exact G
     have ag:(aY s a==34)=false:=by rw[Su];exact λh=>QH u ((bB s a 34 (by decide) d1).1 h)
     have am:(aY s a==39)=false:=by rw[Su];exact λh=>Ra u ((bB s a 39 (by decide) d1).1 h)
     have ai:(aY s a==123)=false:=by rw[Su];exact λh=>Rh u ((bB s a 123 (by decide) d1).1 h)
     have ak:Hid (∀V,Sa 101 #[.string (s.extract a s.size),.string ⟨#[47,47]⟩] V λe w'=>Uk e (.bool false)/\w'=V):=λV=>by
      have G:=sY (s.extract a s.size) ⟨#[47,47]⟩ V;rw[kx s _ a (by omega),show pre s a ⟨#[47,47]⟩=false from QL u d1]at G;exact G
     obtain⟨E,M⟩:=ea ((aq s a 6).2)
     have I:Hid (∀V,Rs w0 V g s a a f l->Sa 132 #[.pointer (some (Tw g 0))] V λe w'=>Uk e (Tu (E:Nat))/\TP w0 w' g s 6 a f l):=λV H=>by
      rw[<-M];exact EL hK H ab d1 J u ac
     have O:Hid (au s a=6/\(aq s a 6).2=E):=⟨u,M⟩;clear u J M;rotate_left
     have S:Hid (∀V,Rs w0 V g s a a f l->Sa 127 #[Tu (aY s a)] V λe w'=>Uk e (.bool false)/\w'=V):=λV H=>by
      have G:=cK (aY s a) V (hK.below H.bel).1;rw[show jL (aY s a)=false by rw[dC s a d1];exact QO u]at G;exact G
     have Y:Hid (∀V,Sa 128 #[.int .i32 (aY s a)] V λe w'=>Uk e (.bool false)/\w'=V):=λV=>by
      have G:=bG (aY s a) V;rw[dg,R8 d1,TB,show dF (aK s a)=false from QX u]at G;exact G
     have ag:(aY s a==34)=false:=by rw[Su];exact λh=>QG u ((bB s a 34 (by decide) d1).1 h)
     have am:(aY s a==39)=false:=by rw[Su];exact λh=>Q9 u ((bB s a 39 (by decide) d1).1 h)
     have ai:(aY s a==123)=false:=by rw[Su];exact λh=>Rg u ((bB s a 123 (by decide) d1).1 h)
     have ak:Hid (∀V,Sa 101 #[.string (s.extract a s.size),.string ⟨#[47,47]⟩] V λe w'=>Uk e (.bool true)/\w'=V):=λV=>by
      have G:=sY (s.extract a s.size) ⟨#[47,47]⟩ V;rw[kx s _ a (by omega),show pre s a ⟨#[47,47]⟩=true from QK u d1]at G;exact G
     obtain⟨E,M⟩:=ea ((aq s a 7).2)
     have I:Hid (∀V,Rs w0 V g s a a f l->Sa 131 #[.pointer (some (Tw g 0))] V λe w'=>Uk e (Tu (E:Nat))/\TP w0 w' g s 7 a f l):=λV H=>by
      rw[<-M];exact Gb H ab d1 J u ac
     have O:Hid (au s a=7/\(aq s a 7).2=E):=⟨u,M⟩;clear u J M;rotate_left
     have S:Hid (∀V,Rs w0 V g s a a f l->Sa 127 #[Tu (aY s a)] V λe w'=>Uk e (.bool false)/\w'=V):=λV H=>by
      have G:=cK (aY s a) V (hK.below H.bel).1;rw[show jL (aY s a)=false by rw[dC s a d1];exact QN u]at G;exact G
     have Y:Hid (∀V,Sa 128 #[.int .i32 (aY s a)] V λe w'=>Uk e (.bool false)/\w'=V):=λV=>by
      have G:=bG (aY s a) V;rw[dg,R8 d1,TB,show dF (aK s a)=false from QW u]at G;exact G
     have ag:(aY s a==34)=false:=by rw[Su];exact λh=>QF u ((bB s a 34 (by decide) d1).1 h)
     have am:(aY s a==39)=false:=by rw[Su];exact λh=>Q7 u ((bB s a 39 (by decide) d1).1 h)
     have ai:(aY s a==123)=true:=by rw[T8];exact(bB s a 123 (by decide) d1).2 (PR u)
     obtain⟨E,M⟩:=ea ((aq s a 8).2)
     have I:Hid (∀V,Rs w0 V g s a a f l->Sa 131 #[.pointer (some (Tw g 0))] V λe w'=>Uk e (Tu (E:Nat))/\TP w0 w' g s 8 a f l):=λV H=>by
      rw[<-M];exact DJ H ab d1 J u ac
     have O:Hid (au s a=8/\(aq s a 8).2=E):=⟨u,M⟩;clear u J M;rotate_left
     all_goals(
      by_cases he:E=0
      case' pos=>subst he
      case' neg=>
       have qe:((E:Int)==0)=false:=by simp;omega
       have az:=aW he;clear he
      all_goals(
       go_wp2_with(first|(go_at_call 124;refine(aj.out _).mono ?_;rintro e w1⟨rfl,ae⟩;have Q:=Rq.below HR.out ae;have z1:=(HC.out _ _ _ Q).2.2)|(go_at_call 126;refine(aw.out _ Q).mono ?_;rintro e w2⟨rfl,hr2⟩;obtain⟨y0,y1,y2⟩:=HC.out _ _ _ hr2)|(go_at_call 127;refine(S.out _ hr2).mono ?_;rintro e w3⟨rfl,hw⟩;replace hw:=hw.symm;subst hw)|(go_at_call 129;refine(I.out _ hr2).mono ?_;rintro e w5⟨rfl,aa⟩)|(go_at_call 128;refine(Y.out _).mono ?_;rintro e w4⟨rfl,hw⟩;replace hw:=hw.symm;subst hw)|(go_at_call 130;refine(I.out _ hr2).mono ?_;rintro e w5⟨rfl,aa⟩))
       try(go_quiet ((first|(go_at_call 101;exact Calls.quiet_of_same (ak.out _))|fail));go_wp2_with(first|(go_at_call 132;refine(I.out _ (Rq.below hr2 (dv _ _))).mono ?_;rintro e w5⟨rfl,aa⟩)|(go_at_call 131;refine(I.out _ (Rq.below hr2 (dv _ _))).mono ?_;rintro e w5⟨rfl,aa⟩)))
       first
        | (obtain⟨hj,bh⟩:=HJ.out.tok d1 HN.out.1 HN.out.2 O.out.1 (by decide) O.out.2 aa;go_step3;refine⟨rfl,⟨_,a,0,_,_,_,_,_,_,_,_,_,_,_,_,_,_,_,_,_,_,_,_,_,_,_,_,_,_,_,_,_,_,_,_,_,_,_,_,_,_,_,_,_,_,_,_,_,_,_,_,_,_,_,_,_,_,_,_,_,_,_,_,_,_,_,_,_,_,_,_,_,_,_,_,_,_,_,_,_,_,_,_,_,_,_,hj,rfl⟩,?_⟩;rw[HX.out,hj.rs.at];have:=hj.asz;omega)
        | (obtain⟨hj,bb⟩:=HJ.out.bad d1 HN.out.1 HN.out.2 O.out.1 (by decide) (by rw[O.out.2];exact az.out) aa;simp only[Exit.jump];go_ret;rw[bb,O.out.2];exact⟨rfl,hj⟩)))
def g8 (s:ByteArray) (c a b:Nat):Int × Int × Int:=if c=0 then(0,0,0)else if c=102 then(a,pL s a,pC s a)else(b,pL s b,pC s b)
def Dn (h:Rs w0 W g s a b f l) (c:Nat) (hs:s.size<=2147483647) (ab:b<=a) (ha:bd s a) (hb:bd s b) :
  Sa 68 #[.pointer (some (Tw g 0)),Tu c] W λe w'=>Uk e (.agg #[Tu (g8 s c a b).1,Tu (g8 s c a b).2.1,Tu (g8 s c a b).2.2])/\Se W w':=by
 obtain⟨h1,h2,v,Z,h4⟩:=h;obtain⟨W1,hW1⟩:=ea (W.alloc (.cells #[Tu 0,Tu 0,Tu 0] 45));have G:Se W W1:=by rw[<-hW1];exact(gt _ _).alloc (ge _) _
 have k0:bO W1 W.heap.size 0 0 0:=by rw[<-hW1];exact bO.new W 0 0 0
 have J:RB W1 g s a (aY s a) (eH s a) b f v:=af Z G;obtain⟨_,_,_,_,c4,c5,c6,_,_⟩:=Rq.cells J;have g0:=k0.cell0;have g1:=k0.cell1;have g2:=k0.cell2;have f0:=k0.frozen 0;have f1:=k0.frozen 1;have f2:=k0.frozen 2
 by_cases Y:c=0
 ·subst Y;have H:g8 s 0 a b=(0,0,0):=rfl;rw[H];clear H h1 Z h4 J c4 c5 c6;go_enter Tryz.func68,Tryz.ntmps68;(go_wp2_with fail);have u:=((k0.set0 0).set1 0).set2 0;have M:=u.cell0;have O:=u.cell1;have Q:=u.cell2;refine R0 (v:=.agg #[Tu 0,Tu 0,Tu 0]) (by simp[results,Tryz.f68,go_sem,M,O,Q]) rfl ?_;exact⟨rfl,((G.setCell (p:=⟨W.heap.size,0,none⟩) (ge _) _).setCell (p:=⟨W.heap.size,1,none⟩) (ge _) _).setCell (p:=⟨W.heap.size,2,none⟩) (ge _) _⟩
 ·have q0:((c:Int)==0)=false:=by simp;omega
  by_cases e2:c=102
  ·subst e2;have H:g8 s 102 a b=((a:Int),pL s a,pC s a):=rfl;rw[H];have HH:Hid (Sa 133 #[.pointer (some (Tw g 0))] W1 λe w'=>Uk e (.agg #[Tu a,Tu (pL s a),Tu (pC s a)])/\Se W1 w'):=wC J hs ab hb ha;clear H h1 Z h4 J c4 c5 c6 q0 Y g0 g1 g2 f0 f1 f2;generalize pL s a=L2 at *;generalize pC s a=C2 at *;go_enter Tryz.func68,Tryz.ntmps68
   go_wp2_with(first|(go_at_call 133;(try rw[hW1]);refine HH.out.mono ?_;rintro e w1⟨rfl,S⟩;have I:=k0.below S;have g0:=I.cell0;have g1:=I.cell1;have g2:=I.cell2;have f0:=I.frozen 0;have f1:=I.frozen 1;have f2:=I.frozen 2))
   have u:=((I.set0 a).set1 L2).set2 C2;have M:=u.cell0;have O:=u.cell1;have Q:=u.cell2;refine R0 (v:=.agg #[Tu a,Tu L2,Tu C2]) (by simp[results,Tryz.f68,go_sem,M,O,Q]) rfl ?_;have aa:=G.trans (S.mono G.size);exact⟨rfl,((aa.setCell (p:=⟨W.heap.size,0,none⟩) (ge _) _).setCell (p:=⟨W.heap.size,1,none⟩) (ge _) _).setCell (p:=⟨W.heap.size,2,none⟩) (ge _) _⟩
  ·have q2:((c:Int)==102)=false:=by simp;omega
   have H:g8 s c a b=((b:Int),pL s b,pC s b):=by unfold g8;rw[Eq Y,Eq e2]
   rw[H];clear H h1 Z h4 J Y e2;generalize pL s b=L2 at *;generalize pC s b=C2 at *;go_enter Tryz.func68,Tryz.ntmps68;(go_wp2_with fail);have u:=((k0.set0 b).set1 L2).set2 C2;have M:=u.cell0;have O:=u.cell1;have Q:=u.cell2;refine R0 (v:=.agg #[Tu b,Tu L2,Tu C2]) (by simp[results,Tryz.f68,go_sem,M,O,Q]) rfl ?_;exact⟨rfl,((G.setCell (p:=⟨W.heap.size,0,none⟩) (ge _) _).setCell (p:=⟨W.heap.size,1,none⟩) (ge _) _).setCell (p:=⟨W.heap.size,2,none⟩) (ge _) _⟩
end Go.Proofs.YthfjlkfeeglfmaaGreatDoor.Lx
namespace Go.Proofs.YthfjlkfeeglfmaaGreatDoor
open Lx
open Go.RowKit
def Rt.base {B G:Nat}{w:World}{v:Value}{l:List Tv}(h:Rt B w v l) (M:G<=B):Rt G w v l:=by
 refine⟨h.1,?_⟩
 rcases h.2 with H|⟨g,cap,u,rfl,I,J⟩
 ·exact .inl H
 ·exact .inr ⟨g,cap,u,rfl,PI M I,J⟩
end Go.Proofs.YthfjlkfeeglfmaaGreatDoor
namespace Go.Proofs.YthfjlkfeeglfmaaGreatDoor.Lx
open Go.RowKit
def LU (s:ByteArray) (w:World) (hT:pT w) (hs:s.size<=2147483647) :
  Sa 28 #[.string s] w λe w'=>AV w s e w':=by
 obtain⟨W0,O⟩:=ea (w.alloc (.cells #[Tu 0,Tu 0,Tu 0] 45));have M:Se w W0:=by rw[<-O];exact(gt _ _).alloc (ge _) _
 have k0:bO W0 w.heap.size 0 0 0:=by rw[<-O];exact bO.new w 0 0 0
 have ab:=hT.below M;have HS:=aW qD;have HL:=aW λV g (u:Rq W0 V g s 0 0 0 0 0 [])=>we u (by omega) (RU _)
 have HD:=aW λV g (u:Rs W0 V g s 0 0 0 [])=>oP ab u hs
 obtain⟨p1,p2⟩:=Ns s
 have HN:Hid (∀V,Se W0 V->Rq W0 (V.alloc (.cells #[.string s,Tu 0,.int .i32 0,Tu 0,Tu 0,Tu 1,Tu 1,Tu 0,.slice none 0 0] 147)) V.heap.size s 0 0 0 0 0 []):=λV u=>by
  refine⟨u.alloc u.size _,u.size,.slice none 0 0,?_,M9 _ _⟩;have h9:=ak V (.cells #[.string s,Tu 0,.int .i32 0,Tu 0,Tu 0,Tu 1,Tu 1,Tu 0,.slice none 0 0] 147);unfold RB;rw[p1,p2];exact h9
 clear p1 p2 hT ab;go_enter Tryz.func28,Tryz.ntmps28
 go_wp2_with(first|(go_at_call 65;(try rw[O]);refine(HS.out _).mono ?_;rintro e w1⟨rfl,S⟩)|(go_at_call 66;refine(HL.out _ _ (HN.out _ S)).mono ?_;rintro e w2⟨rfl,hr2⟩)|(go_at_call 67;refine(HD.out _ _ hr2).mono ?_;rintro e w3⟨rfl,hr3⟩))
 obtain⟨H,I,f',hr,t1,t2,t3,t4,t5⟩:=hr3;obtain⟨c,hc⟩:=ea ((fY s).2.1);obtain⟨z,hz⟩:=ea ((fY s).2.2);rw[hc]at t4 t5;rw[hz]at t4 t5
 have HV:Hid (AV w s=λe w'=>(∃v,Uk e (.tuple #[v,Tu c,.agg #[Tu (g8 s c H I).1,Tu (g8 s c H I).2.1,Tu (g8 s c H I).2.2]])/\Rt w.heap.size w' v ((fY s).1.map (tv s)))/\Se w w'):=by
  show _=_
  funext e w'
  unfold AV;rw[hc,hz]
  have e1:((if c=0 then 0 else(z:Int))=(g8 s c H I).1/\(if c=0 then 0 else pL s z)=(g8 s c H I).2.1/\(if c=0 then 0 else pC s z)=(g8 s c H I).2.2):=by
   unfold g8
   by_cases c0:c=0
   ·simp only[Or c0];exact⟨trivial,trivial,trivial⟩
   ·by_cases c2:c=102
    ·have:=t4 c2;subst this;simp only[Eq c0,Or c2];exact⟨trivial,trivial,trivial⟩
    ·have:=t5 c0 c2;subst this;simp only[Eq c0,Eq c2];exact⟨trivial,trivial,trivial⟩
  rw[e1.1,e1.2.1,e1.2.2]
 have HF:=aW λV (u:Se w3 V)=>Dn (Rq.below hr u) c (by omega) t3 t1 t2
 obtain⟨r1,r2,v,r3,r4⟩:=hr;have Z:w1.heap.size≠w.heap.size:=by have h8:=k0.lt;have h9:=S.size;omega
 have HK:Hid (∀V,Se w3 V->V.cell? ⟨w1.heap.size,8,none⟩=some v/\Se w V):=λV u=>⟨aa (af r3 u) rfl,M.trans ((r1.trans (u.mono r1.size)).mono M.size)⟩
 have J:Hid (∀V x y z,Se w3 V->(((V.setCell ⟨w.heap.size,0,none⟩ x).setCell ⟨w.heap.size,1,none⟩ y).setCell ⟨w.heap.size,2,none⟩ z).cell? ⟨w1.heap.size,8,none⟩=some v/\Se w (((V.setCell ⟨w.heap.size,0,none⟩ x).setCell ⟨w.heap.size,1,none⟩ y).setCell ⟨w.heap.size,2,none⟩ z)/\Rt w.heap.size (((V.setCell ⟨w.heap.size,0,none⟩ x).setCell ⟨w.heap.size,1,none⟩ y).setCell ⟨w.heap.size,2,none⟩ z) v ((fY s).1.map (tv s))):=λV x y z u=>by
  have h8:=r4.below u;have G:=(HK.out V u).2;have h9:∀k,v.ownBlock=some k->k≠w.heap.size:=λk hk=>by have h7:=r4.own k hk;have h6:=k0.lt;omega
  refine⟨aa (az (az (az (af r3 u) Z _) Z _) Z _) rfl,((G.setCell (p:=⟨w.heap.size,0,none⟩) (ge _) _).setCell (p:=⟨w.heap.size,1,none⟩) (ge _) _).setCell (p:=⟨w.heap.size,2,none⟩) (ge _) _,?_⟩;exact(((h8.base M.size).kp (Kp.set _ w.heap.size 0 _) h9).kp (Kp.set _ w.heap.size 1 _) h9).kp (Kp.set _ w.heap.size 2 _) h9
 have HW:=aW λV (u:Se w3 V)=>k0.below (r1.trans (u.mono r1.size))
 rw[hc];obtain⟨⟨A,L,C⟩,hR⟩:∃R,g8 s c H I=R:=⟨_,rfl⟩;rw[hR]at HV HF;clear hr2 S t1 t2 t3 t4 t5 r1 r2 r3 r4 hc hz O k0 hR
 go_region_held3 (λw'=>w'.cell? ⟨w1.heap.size,8,none⟩=some v/\Se w w') (first|(exact HK.out _ (by assumption))|(exact HK.out _ (gt _ _).drew)|(exact⟨(J.out _ _ _ _ G).1,(J.out _ _ _ _ G).2.1⟩)|go_keep) (first|(go_at_call 68;refine(HF.out _ (gt _ _).drew).mono ?_;rintro e w4⟨rfl,ac⟩;have G:Se w3 w4:=(gt w3.heap.size w3).drew.trans (ac.mono (ge _));have Q:=HW.out _ G;have g0:=Q.cell0;have g1:=Q.cell1;have g2:=Q.cell2;have f0:=Q.frozen 0;have f1:=Q.frozen 1;have f2:=Q.frozen 2))
 all_goals(
  (go_wp2_with fail);have Y:=((Q.set0 A).set1 L).set2 C;have m0:=Y.cell0;have m1:=Y.cell1;have m2:=Y.cell2;refine R0 (v:=.tuple #[v,Tu c,.agg #[Tu A,Tu L,Tu C]]) (by simp[results,Tryz.f28,go_sem,m0,m1,m2]) rfl ?_;rw[HV.out];exact⟨⟨v,rfl,(J.out _ _ _ _ G).2.2⟩,(J.out _ _ _ _ G).2.1⟩)
