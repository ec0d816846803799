import Derived.Test.YtpdlohfdjiaegaaGreatDoorR08
import Derived.Test.YtpdlohfdjiaegaaGreatDoorR09
import Derived.Test.YtpdlohfdjiaegaaGreatDoorR10
set_option linter.unusedVariables false
set_option linter.unusedSimpArgs false
namespace Go.Proofs.YtpdlohfdjiaegaaGreatDoor.Lx
open Go.RowKit
variable {s:ByteArray}{a g b f:Nat}{w0 W W':World}{l:List Tv}
theorem qJ (s:ByteArray) (a:Nat):aq s a=0\/aq s a=1\/aq s a=3\/aq s a=4\/aq s a=5\/aq s a=6\/aq s a=7\/aq s a=8:=by
 unfold aq
 repeat' split
 all_goals simp
theorem aP {k:Nat}(h:aq s a=k):(k≠1->(gd s a && lt' (dp s a))=false)/\(k≠1->k≠3->bV (by8 s a)=false)/\(k≠1->k≠3->k≠4->by8 s a≠34)/\(k≠1->k≠3->k≠4->k≠5->by8 s a≠39) /\
  (k≠1->k≠3->k≠4->k≠5->k≠7->¬(by8 s a=47/\a+1<s.size/\by8 s (a+1)=47))/\(k≠1->k≠3->k≠4->k≠5->k≠7->k≠8->by8 s a≠123)/\(k≠1->k≠3->k≠4->k≠5->k≠7->k≠8->k≠6->(sg s a).size=0):=by
 unfold aq at h
 by_cases c1:(gd s a && lt' (dp s a))=true
 ·rw [zw c1] at h;subst h;exact ⟨fun h=>absurd rfl h,fun h=>absurd rfl h,fun h=>absurd rfl h,fun h=>absurd rfl h,fun h=>absurd rfl h,fun h=>absurd rfl h,fun h=>absurd rfl h⟩
 ·rw [zu c1] at h;have e1:(gd s a && lt' (dp s a))=false:=by simpa using c1
  by_cases c2:bV (by8 s a)=true
  ·rw [zw c2] at h;subst h;exact ⟨fun _=>e1,fun _ h=>absurd rfl h,fun _ h=>absurd rfl h,fun _ h=>absurd rfl h,fun _ h=>absurd rfl h,fun _ h=>absurd rfl h,fun _ h=>absurd rfl h⟩
  ·rw [zu c2] at h;have e2:bV (by8 s a)=false:=by simpa using c2
   by_cases c3:by8 s a=34
   ·rw [zw c3] at h;subst h;exact ⟨fun _=>e1,fun _ _=>e2,fun _ _ h=>absurd rfl h,fun _ _ h=>absurd rfl h,fun _ _ h=>absurd rfl h,fun _ _ h=>absurd rfl h,fun _ _ h=>absurd rfl h⟩
   ·rw [zu c3] at h
    by_cases c4:by8 s a=39
    ·rw [zw c4] at h;subst h;exact ⟨fun _=>e1,fun _ _=>e2,fun _ _ _=>c3,fun _ _ _ h=>absurd rfl h,fun _ _ _ h=>absurd rfl h,fun _ _ _ h=>absurd rfl h,fun _ _ _ h=>absurd rfl h⟩
    ·rw [zu c4] at h
     by_cases c5:by8 s a=47/\a+1<s.size/\by8 s (a+1)=47
     ·rw [zw c5] at h;subst h;exact ⟨fun _=>e1,fun _ _=>e2,fun _ _ _=>c3,fun _ _ _ _=>c4,fun _ _ _ _ h=>absurd rfl h,fun _ _ _ _ h=>absurd rfl h,fun _ _ _ _ h=>absurd rfl h⟩
     ·rw [zu c5] at h
      by_cases c6:by8 s a=123
      ·rw [zw c6] at h;subst h;exact ⟨fun _=>e1,fun _ _=>e2,fun _ _ _=>c3,fun _ _ _ _=>c4,fun _ _ _ _ _=>c5,fun _ _ _ _ _ h=>absurd rfl h,fun _ _ _ _ _ h=>absurd rfl h⟩
      ·rw [zu c6] at h;refine ⟨fun _=>e1,fun _ _=>e2,fun _ _ _=>c3,fun _ _ _ _=>c4,fun _ _ _ _ _=>c5,fun _ _ _ _ _ _=>c6,fun _ _ _ _ _ _ h6=>?_⟩
       by_cases c7:(sg s a).size≠0
       ·rw [zw c7] at h;exact absurd h.symm h6
       ·exact Decidable.not_not.1 c7
theorem j7 :pre s a ⟨#[47,47]⟩=decide (by8 s a=47/\a+1<s.size/\by8 s (a+1)=47):=by
 unfold pre;rw [B8];have hz:(⟨#[47,47]⟩:ByteArray).size=2:=rfl;rw [hz];constructor
 ·rintro ⟨h1,h2⟩;have e0:=bv s a (a+2) 0 (by omega);have e1:=bv s a (a+2) 1 (by omega);rw [h2] at e0 e1;exact ⟨by rw [show a=a+0 by omega,<-e0];rfl,by omega,by rw [<-e1];rfl⟩
 ·rintro ⟨h1,h2,h3⟩;refine ⟨by omega,fP _ _ (by rw [aC s _ _ (by omega)];show a+2-a=2;omega) (fun j hj=>?_)⟩;rw [aC s _ _ (by omega)] at hj;rw [bv s a _ j (by omega)]
  rcases (show j=0\/j=1 by omega) with rfl|rfl
  ·rw [A3,h1];rfl
  ·rw [h3];rfl
theorem kp_7 (hk:aq s a=7) (d1:a<s.size):pre s a ⟨#[47,47]⟩=true:=by rw [j7];exact zB (yk hk)
theorem kp_6 (hk:aq s a=6) (d1:a<s.size):pre s a ⟨#[47,47]⟩=false:=by rw [j7];exact zA ((aP hk).2.2.2.2.1 (by decide) (by decide) (by decide) (by decide) (by decide))
theorem kp_0 (hk:aq s a=0) (d1:a<s.size):pre s a ⟨#[47,47]⟩=false:=by rw [j7];exact zA ((aP hk).2.2.2.2.1 (by decide) (by decide) (by decide) (by decide) (by decide))
theorem kl_1 (hk:aq s a=1):(gd s a && lt' (dp s a))=true:=zj hk
theorem kd_3 (hk:aq s a=3):bV (by8 s a)=true:=zi hk
theorem kl_3 (hk:aq s a=3):(gd s a && lt' (dp s a))=false:=(aP hk).1 (by decide)
theorem kl_4 (hk:aq s a=4):(gd s a && lt' (dp s a))=false:=(aP hk).1 (by decide)
theorem kl_5 (hk:aq s a=5):(gd s a && lt' (dp s a))=false:=(aP hk).1 (by decide)
theorem kl_7 (hk:aq s a=7):(gd s a && lt' (dp s a))=false:=(aP hk).1 (by decide)
theorem kl_8 (hk:aq s a=8):(gd s a && lt' (dp s a))=false:=(aP hk).1 (by decide)
theorem kl_6 (hk:aq s a=6):(gd s a && lt' (dp s a))=false:=(aP hk).1 (by decide)
theorem kl_0 (hk:aq s a=0):(gd s a && lt' (dp s a))=false:=(aP hk).1 (by decide)
theorem kd_4 (hk:aq s a=4):bV (by8 s a)=false:=(aP hk).2.1 (by decide) (by decide)
theorem kd_5 (hk:aq s a=5):bV (by8 s a)=false:=(aP hk).2.1 (by decide) (by decide)
theorem kd_7 (hk:aq s a=7):bV (by8 s a)=false:=(aP hk).2.1 (by decide) (by decide)
theorem kd_8 (hk:aq s a=8):bV (by8 s a)=false:=(aP hk).2.1 (by decide) (by decide)
theorem kd_6 (hk:aq s a=6):bV (by8 s a)=false:=(aP hk).2.1 (by decide) (by decide)
theorem kd_0 (hk:aq s a=0):bV (by8 s a)=false:=(aP hk).2.1 (by decide) (by decide)
theorem kq_5 (hk:aq s a=5):by8 s a≠34:=(aP hk).2.2.1 (by decide) (by decide) (by decide)
theorem kq_7 (hk:aq s a=7):by8 s a≠34:=(aP hk).2.2.1 (by decide) (by decide) (by decide)
theorem kq_8 (hk:aq s a=8):by8 s a≠34:=(aP hk).2.2.1 (by decide) (by decide) (by decide)
theorem kq_6 (hk:aq s a=6):by8 s a≠34:=(aP hk).2.2.1 (by decide) (by decide) (by decide)
theorem kq_0 (hk:aq s a=0):by8 s a≠34:=(aP hk).2.2.1 (by decide) (by decide) (by decide)
theorem kc_7 (hk:aq s a=7):by8 s a≠39:=(aP hk).2.2.2.1 (by decide) (by decide) (by decide) (by decide)
theorem kc_8 (hk:aq s a=8):by8 s a≠39:=(aP hk).2.2.2.1 (by decide) (by decide) (by decide) (by decide)
theorem kc_6 (hk:aq s a=6):by8 s a≠39:=(aP hk).2.2.2.1 (by decide) (by decide) (by decide) (by decide)
theorem kc_0 (hk:aq s a=0):by8 s a≠39:=(aP hk).2.2.2.1 (by decide) (by decide) (by decide) (by decide)
theorem kb_7 (hk:aq s a=7):by8 s a≠123:=by rw [(yk hk).1];decide
theorem kb_6 (hk:aq s a=6):by8 s a≠123:=(aP hk).2.2.2.2.2.1 (by decide) (by decide) (by decide) (by decide) (by decide) (by decide)
theorem kb_0 (hk:aq s a=0):by8 s a≠123:=(aP hk).2.2.2.2.2.1 (by decide) (by decide) (by decide) (by decide) (by decide) (by decide)
theorem kz_0 (hk:aq s a=0):(sg s a).size=0:=(aP hk).2.2.2.2.2.2 (by decide) (by decide) (by decide) (by decide) (by decide) (by decide) (by decide)
structure JR (w0 W:World) (g:Nat) (s:ByteArray) (a b f:Nat) (l:List Tv):Prop where
 asz:a<=s.size
 ba:b<=a
 bda:bd s a
 bdb:bd s b
 rs:Rs w0 W g s a b f l
 fa:f<=a
 la:l.length<=a
 toks:l++(fnd s a f).1.map (tv s)=(scn s).1.map (tv s)
 err:(fnd s a f).2=(scn s).2
def RP (w0 w':World) (g:Nat) (s:ByteArray):Prop:=∃a' b' f',Rs w0 w' g s a' b' f' ((scn s).1.map (tv s))/\bd s a'/\bd s b'/\b'<=a'/\((scn s).2.1=102->a'=(scn s).2.2)/\((scn s).2.1≠0->(scn s).2.1≠102->b'=(scn s).2.2)
theorem JR.done (h:JR w0 W g s a b f l) (ha:s.size<=a):RP w0 W g s/\(scn s).2.1=0:=by
 have e:=vQ s a f ha;have h1:=h.toks;have h2:=h.err;rw [e] at h1 h2;rw [Cg,AQ] at h1;refine ⟨⟨a,b,f,by rw [<-h1];exact h.rs,h.bda,h.bdb,h.ba,?_,?_⟩,by rw [<-h2]⟩
 ·rw [<-h2];intro h;cases h
 ·rw [<-h2];intro h;exact absurd rfl h
theorem JR.feed (h:JR w0 W g s a b f l) (ha:a<s.size) (h10:by8 s a=10) (hr:Rs w0 W' g s (a+rsz s a) b (if rpt s a=10 then f+1 else f) l):JR w0 W' g s (a+1) b (f+1) l:=by
 have e:=eI s a f ha;rw [zw h10] at e;have e1:rpt s a=10:=(aO s a 10 (by decide) ha).2 h10;rw [zw e1,aV ha,(bj s a (by omega)).1] at hr;have h1:=h.ba;have h2:=h.fa;have h3:=h.la;exact ⟨ha,by omega,(fu s a ha (by omega)).2,h.bdb,hr,by omega,by omega,by rw [<-e];exact h.toks,by rw [<-e];exact h.err⟩
theorem JR.blank (h:JR w0 W g s a b f l) (ha:a<s.size) (h10:by8 s a≠10) (hbl:cC (by8 s a)=true) (hr:Rs w0 W' g s (a+rsz s a) b (if rpt s a=10 then f+1 else f) l):JR w0 W' g s (a+1) b f l:=by
 have e:=eI s a f ha;rw [zu h10,zw hbl] at e;have h8:=yj hbl;have hn10:¬rpt s a=10:=fun h=>h10 ((aO s a 10 (by decide) ha).1 h)
 rw [zu hn10,aV ha,(bj s a h8).1] at hr;have h1:=h.ba;have h2:=h.fa;have h3:=h.la;exact ⟨ha,by omega,(fu s a ha h8).2,h.bdb,hr,by omega,by omega,by rw [<-e];exact h.toks,by rw [<-e];exact h.err⟩
theorem JR.tok (h:JR w0 W g s a b f l) (ha:a<s.size) (h10:by8 s a≠10) (hbl:cC (by8 s a)=false) {k:Nat}(hk:aq s a=k) (h0:k≠0) (hE:(ai s a k).2=0) (hT:TP w0 W' g s k a f l) :
  JR w0 W' g s (ai s a k).1 a 0 (l++[tv s (cj s k a (ai s a k).1 f)])/\a<(ai s a k).1:=by
 have e:=eI s a f ha;have hp:=iq s a k (ai s a k).1 ha hk h0 (Prod.ext rfl hE);have hbp:bd s (ai s a k).1:=xV h.bda ha hk h0 rfl;unfold TP at hT;rw [zw hE] at hT;rw [zu h10,zu (by rw [hbl];decide),hk,zu h0,zu (by rw [hE];decide)] at e;have h3:=h.la;refine ⟨⟨hp.2,At hp.1,hbp,h.bda,hT,zx _,by rw [zq];simp;omega,?_,?_⟩,hp.1⟩
 ·have:=h.toks;rw [e] at this;rw [<-this];simp
 ·have:=h.err;rw [e] at this;exact this
theorem JR.bad (h:JR w0 W g s a b f l) (ha:a<s.size) (h10:by8 s a≠10) (hbl:cC (by8 s a)=false) {k:Nat}(hk:aq s a=k) (h0:k≠0) (hE:(ai s a k).2≠0) (hT:TP w0 W' g s k a f l) :
  RP w0 W' g s/\(scn s).2.1=(ai s a k).2:=by
 have e:=eI s a f ha;unfold TP at hT;rw [zu hE] at hT;rw [zu h10,zu (by rw [hbl];decide),hk,zu h0,zw hE] at e;have h1:=h.toks;have h2:=h.err;rw [e] at h1 h2;rw [Cg,AQ] at h1;obtain ⟨a',t1,t2,t3,t4⟩:=hT;have e1:(scn s).2.1=(ai s a k).2:=by rw [<-h2]
 have e2:(scn s).2.2=(ai s a k).1:=by rw [<-h2]
 refine ⟨⟨a',a,f,by rw [<-h1];exact t3,t1,h.bda,t2,fun h=>?_,fun _ h2=>?_⟩,e1⟩
 ·rw [e2];exact t4 (by rw [<-e1];exact h)
 ·rw [e2]
  rcases vY (p:=(ai s a k).1) (e:=(ai s a k).2) ha rfl hE with ⟨h5,_⟩|⟨h5,_⟩
  ·exact h5.symm
  ·exact absurd (by rw [e1];exact h5) h2
theorem JR.none (h:JR w0 W g s a b f l) (ha:a<s.size) (h10:by8 s a≠10) (hbl:cC (by8 s a)=false) (hk:aq s a=0) (hr:Rs w0 W' g s a a f l) :
  RP w0 W' g s/\(scn s).2.1=100:=by
 have e:=eI s a f ha;rw [zu h10,zu (by rw [hbl];decide),zw hk] at e;have h1:=h.toks;have h2:=h.err;rw [e] at h1 h2;rw [Cg,AQ] at h1;refine ⟨⟨a,a,f,by rw [<-h1];exact hr,h.bda,h.bda,eq _,?_,?_⟩,by rw [<-h2]⟩
 ·rw [<-h2];intro h;cases h
 ·rw [<-h2];intro _ _;rfl
theorem je {P:Program}{a:Act}{w:World}{Q:Exit->Act->World->Prop}{r rest:Code}(l:Nat) (J:Act->World->Prop) (μ:Act->World->Nat) (hf:findLabel (r.seq ((Code.label l).seq rest)) l=some (Code.skip.seq rest))
  (first:r.wp P (Exit.then (fun a w=>J a w) (fun _ _ _=>False)) a w)
  (pass:∀a w,J a w->rest.wp P (Exit.jump l (fun a' w'=>J a' w'/\μ a' w' < μ a w) Q) a w):(Code.scope (r.seq ((Code.label l).seq rest))).wp P Q a w:=by
 refine A0 l J μ hf ?_ (fun a w h=>wp_seq (wp_skip (pass a w h)));refine wp_seq (wp_mono first ?_);intro e a' w' h;cases e with
 |normal=>
  refine wp_seq (wp_label ?_);refine wp_mono (pass a' w' h) ?_;intro e2 a2 w2 h2;cases e2 with
  |goto l'=>exact ⟨h2.1,h2.2.1⟩
  |normal=>exact h2
  |exit id=>exact h2
  |ret=>exact h2
  |panic ch=>exact h2
  |outgrown=>exact h2
 |goto l'=>exact h.elim
 |exit id=>exact h.elim
 |ret=>exact h.elim
 |panic ch=>exact h.elim
 |outgrown=>exact h.elim
set_option maxRecDepth 100000 in
set_option maxHeartbeats 8000000 in
theorem rK (hK:Kab w0) (h:Rs w0 W g s 0 0 0 []) (hs:s.size<=1000000000) :
  Aa 51 #[.pointer (some ⟨g,0,none⟩)] W fun e w'=>e=.returned (.int .i64 ((scn s).2.1:Nat))/\RP w0 w' g s:=by
 have HJ0:Hid (JR w0 W g s 0 0 0 []):=⟨zx _,eq _,kx s,kx s,h,eq _,eq _,rfl,rfl⟩
 have HC:Hid (∀V a b,∀{f:Nat} {l:List Tv},Rs w0 V g s a b f l->V.cell? ⟨g,0,none⟩=some (.string s)/\V.cell? ⟨g,1,none⟩=some (.int .i64 a)/\V.cell? ⟨g,2,none⟩=some (.int .i32 (rpt s a))):=fun V a b f l hr=>by
  obtain ⟨h1',h2',v,h3,h4⟩:=hr;exact ⟨(Rq.cells h3).1,(Rq.cells h3).2.1,(Rq.cells h3).2.2.1⟩
 clear h
 go_enter Tryz.func51,Tryz.ntmps51
 go_wp2_with fail
 refine je 0 (fun a' w'=>∃(a b f:Nat) (l:List Tv) (u1 u2 u3 u4 u5 u6 u7 u8 u9 u10 u11 u12 u13 u14 u15 u16 u17 u18 u19 u20 u21 u22 u23 u24 u25 u26 u27 u28 u29 u30 u31 u32 u33 u34 u35 u36 u37 u38 u39 u40 u41 u42 u43 u44 u45 u46 u47 u48 u49 u50 u51 u52 u53 u54 u55 u56 u57 u58 u59 u60 u61 u62 u63 u64 u65 u66 u67 u68 u69 u70 u71 u72 u73 u74 u75 u76 u77 u78 u79 u80 u81 u82:Value),Hid (JR w0 w' g s a b f l)/\a'={ tmps:=#[.pointer (some ⟨g,0,none⟩),u1,u2,u3,u4,u5,u6,u7,u8,u9,u10,u11,u12,u13,u14,u15,u16,u17,u18,u19,u20,u21,u22,u23,u24,u25,u26,u27,u28,u29,u30,u31,u32,u33,u34,u35,u36,u37,u38,u39,u40,u41,u42,u43,u44,u45,u46,u47,u48,u49,u50,u51,u52,u53,u54,u55,u56,u57,u58,u59,u60,u61,u62,u63,u64,u65,u66,u67,u68,u69,u70,u71,u72,u73,u74,u75,u76,u77,u78,u79,u80,u81,u82],defers:=[] }) (fun _ w'=>s.size-dm w' g 1) rfl ?_ ?_
 ·go_wp2_with fail
  exact ⟨0,0,0,[],_,_,_,_,_,_,_,_,_,_,_,_,_,_,_,_,_,_,_,_,_,_,_,_,_,_,_,_,_,_,_,_,_,_,_,_,_,_,_,_,_,_,_,_,_,_,_,_,_,_,_,_,_,_,_,_,_,_,_,_,_,_,_,_,_,_,_,_,_,_,_,_,_,_,_,_,_,_,_,_,_,_,HJ0,rfl⟩
 ·rintro a' w' ⟨a,b,f,l,u1,u2,u3,u4,u5,u6,u7,u8,u9,u10,u11,u12,u13,u14,u15,u16,u17,u18,u19,u20,u21,u22,u23,u24,u25,u26,u27,u28,u29,u30,u31,u32,u33,u34,u35,u36,u37,u38,u39,u40,u41,u42,u43,u44,u45,u46,u47,u48,u49,u50,u51,u52,u53,u54,u55,u56,u57,u58,u59,u60,u61,u62,u63,u64,u65,u66,u67,u68,u69,u70,u71,u72,u73,u74,u75,u76,u77,u78,u79,u80,u81,u82,HJ,rfl⟩;have HX:Hid (dm w' g 1=a):=HJ.out.rs.at;have HR:Hid (Rs w0 w' g s a b f l):=HJ.out.rs;have z0:=(HC.out _ _ _ HR.out).2.2;have hla:=HJ.out.la;have hfa:=HJ.out.fa;have hasz:=HJ.out.asz
  by_cases hd:s.size<=a
  ·rw [(bk s a).2 hd] at z0;have HE:=HJ.out.done hd;have HE2:Hid (RP w0 w' g s/\(scn s).2.1=0):=HE;clear HE hd
   go_wp2_with fail
   simp only [Exit.jump]
   go_ret
   rw [HE2.out.2];exact ⟨rfl,HE2.out.1⟩
  ·have d1:a<s.size:=by omega
   have e0:(rpt s a == -1)=false:=by rw [zS];exact fun h=>hd ((bk s a).1 h)
   have rg:=jW s a;have rg0:0<=rpt s a:=by rw [dF d1];omega
   have hps:=lk HR.out (by omega) hasz (by omega);have HPs:Hid (∀V,Rs w0 V g s a b f l->Aa 84 #[.pointer (some ⟨g,0,none⟩)] V fun e w'=>e=.returned (.tuple #[])/\Rs w0 w' g s (a+rsz s a) b (if rpt s a=10 then f+1 else f) l):=fun V hV=>lk hV (by omega) hasz (by omega)
   clear hps
   by_cases h10:by8 s a=10
   ·have q10:rpt s a=10:=(aO s a 10 (by decide) d1).2 h10;have HJ2:Hid (∀V,Rs w0 V g s (a+rsz s a) b (if rpt s a=10 then f+1 else f) l->JR w0 V g s (a+1) b (f+1) l):=fun V hV=>HJ.out.feed d1 h10 hV
    rw [q10] at z0;clear h10 hd e0
    go_wp2_with (first|(go_at_call 84;refine (HPs.out _ HR.out).mono ?_;rintro e w1 ⟨rfl,hr1⟩;have hj:=HJ2.out _ hr1))
    go_step3
    refine ⟨rfl,⟨a+1,b,f+1,l,_,_,_,_,_,_,_,_,_,_,_,_,_,_,_,_,_,_,_,_,_,_,_,_,_,_,_,_,_,_,_,_,_,_,_,_,_,_,_,_,_,_,_,_,_,_,_,_,_,_,_,_,_,_,_,_,_,_,_,_,_,_,_,_,_,_,_,_,_,_,_,_,_,_,_,_,_,_,_,_,_,_,hj,rfl⟩,?_⟩;rw [HX.out,hj.rs.at];omega
   ·have q10:(rpt s a == 10)=false:=by rw [zS];exact fun h=>h10 ((aO s a 10 (by decide) d1).1 h)
    have hbp:=yZ s a d1
    by_cases hbl:cC (by8 s a)=true
    ·have HBl:Hid (∀V,Aa 83 #[.int .i32 (rpt s a)] V fun e w'=>e=.returned (.bool true)/\Ab V w'):=fun V=>by
      rw [<-hbl,<-hbp];exact gE _ _ rg0
     have HJ2:Hid (∀V,Rs w0 V g s (a+rsz s a) b (if rpt s a=10 then f+1 else f) l->JR w0 V g s (a+1) b f l):=fun V hV=>HJ.out.blank d1 h10 hbl hV
     clear h10 hd hbl hbp
     go_wp2_with (first|(go_at_call 83;refine (HBl.out _).mono ?_;rintro e w1 ⟨rfl,hb1⟩;have hr1:=Rq.below HR.out hb1;have z1:=(HC.out _ _ _ hr1).2.2)|(go_at_call 84;refine (HPs.out _ hr1).mono ?_;rintro e w2 ⟨rfl,hr2⟩;have hj:=HJ2.out _ hr2))
     go_step3
     refine ⟨rfl,⟨a+1,b,f,l,_,_,_,_,_,_,_,_,_,_,_,_,_,_,_,_,_,_,_,_,_,_,_,_,_,_,_,_,_,_,_,_,_,_,_,_,_,_,_,_,_,_,_,_,_,_,_,_,_,_,_,_,_,_,_,_,_,_,_,_,_,_,_,_,_,_,_,_,_,_,_,_,_,_,_,_,_,_,_,_,_,_,hj,rfl⟩,?_⟩;rw [HX.out,hj.rs.at];omega
    ·have hbl1:cC (by8 s a)=false:=by simpa using hbl
     have HBl:Hid (∀V,Aa 83 #[.int .i32 (rpt s a)] V fun e w'=>e=.returned (.bool false)/\Ab V w'):=fun V=>by
      rw [<-hbl1,<-hbp];exact gE _ _ rg0
     have hb0:=HJ.out.bda;have HSt:Hid (∀V,Rs w0 V g s a b f l->Aa 85 #[.pointer (some ⟨g,0,none⟩)] V fun e w'=>e=.returned (.tuple #[])/\Rs w0 w' g s a a f l):=fun V hV=>uE hV (by omega) HJ.out.ba HJ.out.bdb hb0
     have hwr:IntKind.i64.wrap (rpt s a)=rpt s a:=by rw [zF];omega
     have hl9:l.length<=1000000000:=by omega
     have HN:Hid (by8 s a≠10/\cC (by8 s a)=false):=⟨h10,hbl1⟩;have hs':s.size<=2147483647:=by omega
     have qs:(a:Int)<=s.size:=by omega
     have hcases:=qJ s a;clear h10 hd hbl hbl1 hbp HPs
     rcases hcases with hk|hk|hk|hk|hk|hk|hk|hk
     ·have HLt:Hid (∀V,Rs w0 V g s a a f l->Aa 86 #[.int .i64 (rpt s a)] V fun e w'=>e=.returned (.bool false)/\w'=V):=fun V hV=>by
       have h9:=bO (rpt s a) V (hK.below hV.bel).1;rw [show lt' (rpt s a)=false by rw [co s a d1];exact kl_0 hk] at h9;exact h9
      have HDg:Hid (∀V,Aa 87 #[.int .i32 (rpt s a)] V fun e w'=>e=.returned (.bool false)/\w'=V):=fun V=>by
       have h9:=aU (rpt s a) V;rw [bX,zB d1,AD,show bV (by8 s a)=false from kd_0 hk] at h9;exact h9
      have q34:(rpt s a == 34)=false:=by rw [zS];exact fun h=>kq_0 hk ((aO s a 34 (by decide) d1).1 h)
      have q39:(rpt s a == 39)=false:=by rw [zS];exact fun h=>kc_0 hk ((aO s a 39 (by decide) d1).1 h)
      have q123:(rpt s a == 123)=false:=by rw [zS];exact fun h=>kb_0 hk ((aO s a 123 (by decide) d1).1 h)
      have HPr:Hid (∀V,Aa 90 #[.string (s.extract a s.size),.string ⟨#[47,47]⟩] V fun e w'=>e=.returned (.bool false)/\w'=V):=fun V=>by
       have h9:=ke (s.extract a s.size) ⟨#[47,47]⟩ V;rw [fG s _ a (by omega),show pre s a ⟨#[47,47]⟩=false from kp_0 hk d1] at h9;exact h9
      have HTok:Hid (∀V,Rs w0 V g s a a f l->Aa 92 #[.pointer (some ⟨g,0,none⟩)] V fun e w'=>e=.returned (.int .i64 100)/\Rs w0 w' g s a a f l):=fun V hV=>pf hK hV hs' d1 (kz_0 hk)
      have HE2:Hid (∀V,Rs w0 V g s a a f l->RP w0 V g s/\(scn s).2.1=100):=fun V hV=>HJ.out.none d1 HN.out.1 HN.out.2 hk hV
      clear hk hb0
      go_wp2_with (first|(go_at_call 83;refine (HBl.out _).mono ?_;rintro e w1 ⟨rfl,hb1⟩;have hr1:=Rq.below HR.out hb1;have z1:=(HC.out _ _ _ hr1).2.2)|(go_at_call 85;refine (HSt.out _ hr1).mono ?_;rintro e w2 ⟨rfl,hr2⟩;obtain ⟨y0,y1,y2⟩:=HC.out _ _ _ hr2)|(go_at_call 86;refine (HLt.out _ hr2).mono ?_;rintro e w3 ⟨rfl,hw⟩;replace hw:=hw.symm;subst hw)|(go_at_call 87;refine (HDg.out _).mono ?_;rintro e w4 ⟨rfl,hw⟩;replace hw:=hw.symm;subst hw))
      go_quiet ((go_at_call 90;exact Calls.quiet_of_same (HPr.out _)))
      go_wp2_with (first|(go_at_call 92;refine (HTok.out _ (Rq.below hr2 (bG _ _))).mono ?_;rintro e w5 ⟨rfl,hr5⟩))
      simp only [Exit.jump]
      go_ret
      rw [(HE2.out _ hr5).2];exact ⟨rfl,(HE2.out _ hr5).1⟩
     ·have HLt:Hid (∀V,Rs w0 V g s a a f l->Aa 86 #[.int .i64 (rpt s a)] V fun e w'=>e=.returned (.bool true)/\w'=V):=fun V hV=>by
       have h9:=bO (rpt s a) V (hK.below hV.bel).1;rw [show lt' (rpt s a)=true by rw [co s a d1];exact kl_1 hk] at h9;exact h9
      obtain ⟨E,hE⟩:∃E,(ai s a 1).2=E:=⟨_,rfl⟩
      have HTok:Hid (∀V,Rs w0 V g s a a f l->Aa 88 #[.pointer (some ⟨g,0,none⟩)] V fun e w'=>e=.returned (.int .i64 (E:Nat))/\TP w0 w' g s 1 a f l):=fun V hV=>by
       rw [<-hE];exact iN hK hV hs' d1 hb0 hk hl9
      have HK0:Hid (aq s a=1/\(ai s a 1).2=E):=⟨hk,hE⟩;clear hk hb0 hE
      by_cases he:E=0
      ·subst he
       go_wp2_with (first|(go_at_call 83;refine (HBl.out _).mono ?_;rintro e w1 ⟨rfl,hb1⟩;have hr1:=Rq.below HR.out hb1;have z1:=(HC.out _ _ _ hr1).2.2)|(go_at_call 85;refine (HSt.out _ hr1).mono ?_;rintro e w2 ⟨rfl,hr2⟩;obtain ⟨y0,y1,y2⟩:=HC.out _ _ _ hr2)|(go_at_call 86;refine (HLt.out _ hr2).mono ?_;rintro e w3 ⟨rfl,hw⟩;replace hw:=hw.symm;subst hw)|(go_at_call 88;refine (HTok.out _ hr2).mono ?_;rintro e w5 ⟨rfl,hr5⟩))
       obtain ⟨hj,hlt⟩:=HJ.out.tok d1 HN.out.1 HN.out.2 HK0.out.1 (by decide) HK0.out.2 hr5
       go_step3
       refine ⟨rfl,⟨_,a,0,_,_,_,_,_,_,_,_,_,_,_,_,_,_,_,_,_,_,_,_,_,_,_,_,_,_,_,_,_,_,_,_,_,_,_,_,_,_,_,_,_,_,_,_,_,_,_,_,_,_,_,_,_,_,_,_,_,_,_,_,_,_,_,_,_,_,_,_,_,_,_,_,_,_,_,_,_,_,_,_,_,_,_,hj,rfl⟩,?_⟩;rw [HX.out,hj.rs.at];have:=hj.asz;omega
      ·have qe:((E:Int) == 0)=false:=by simp;omega
       have HEE:Hid (E≠0):=he;clear he
       go_wp2_with (first|(go_at_call 83;refine (HBl.out _).mono ?_;rintro e w1 ⟨rfl,hb1⟩;have hr1:=Rq.below HR.out hb1;have z1:=(HC.out _ _ _ hr1).2.2)|(go_at_call 85;refine (HSt.out _ hr1).mono ?_;rintro e w2 ⟨rfl,hr2⟩;obtain ⟨y0,y1,y2⟩:=HC.out _ _ _ hr2)|(go_at_call 86;refine (HLt.out _ hr2).mono ?_;rintro e w3 ⟨rfl,hw⟩;replace hw:=hw.symm;subst hw)|(go_at_call 88;refine (HTok.out _ hr2).mono ?_;rintro e w5 ⟨rfl,hr5⟩))
       obtain ⟨hj,he2⟩:=HJ.out.bad d1 HN.out.1 HN.out.2 HK0.out.1 (by decide) (by rw [HK0.out.2];exact HEE.out) hr5;simp only [Exit.jump]
       go_ret
       rw [he2,HK0.out.2];exact ⟨rfl,hj⟩
     ·have HLt:Hid (∀V,Rs w0 V g s a a f l->Aa 86 #[.int .i64 (rpt s a)] V fun e w'=>e=.returned (.bool false)/\w'=V):=fun V hV=>by
       have h9:=bO (rpt s a) V (hK.below hV.bel).1;rw [show lt' (rpt s a)=false by rw [co s a d1];exact kl_3 hk] at h9;exact h9
      have HDg:Hid (∀V,Aa 87 #[.int .i32 (rpt s a)] V fun e w'=>e=.returned (.bool true)/\w'=V):=fun V=>by
       have h9:=aU (rpt s a) V;rw [bX,zB d1,AD,show bV (by8 s a)=true from kd_3 hk] at h9;exact h9
      obtain ⟨E,hE⟩:∃E,(ai s a 3).2=E:=⟨_,rfl⟩
      have HTok:Hid (∀V,Rs w0 V g s a a f l->Aa 88 #[.pointer (some ⟨g,0,none⟩)] V fun e w'=>e=.returned (.int .i64 (E:Nat))/\TP w0 w' g s 3 a f l):=fun V hV=>by
       rw [<-hE];exact vh hV hs' d1 hb0 hk hl9
      have HK0:Hid (aq s a=3/\(ai s a 3).2=E):=⟨hk,hE⟩;clear hk hb0 hE
      by_cases he:E=0
      ·subst he
       go_wp2_with (first|(go_at_call 83;refine (HBl.out _).mono ?_;rintro e w1 ⟨rfl,hb1⟩;have hr1:=Rq.below HR.out hb1;have z1:=(HC.out _ _ _ hr1).2.2)|(go_at_call 85;refine (HSt.out _ hr1).mono ?_;rintro e w2 ⟨rfl,hr2⟩;obtain ⟨y0,y1,y2⟩:=HC.out _ _ _ hr2)|(go_at_call 86;refine (HLt.out _ hr2).mono ?_;rintro e w3 ⟨rfl,hw⟩;replace hw:=hw.symm;subst hw)|(go_at_call 87;refine (HDg.out _).mono ?_;rintro e w4 ⟨rfl,hw⟩;replace hw:=hw.symm;subst hw)|(go_at_call 88;refine (HTok.out _ hr2).mono ?_;rintro e w5 ⟨rfl,hr5⟩))
       obtain ⟨hj,hlt⟩:=HJ.out.tok d1 HN.out.1 HN.out.2 HK0.out.1 (by decide) HK0.out.2 hr5
       go_step3
       refine ⟨rfl,⟨_,a,0,_,_,_,_,_,_,_,_,_,_,_,_,_,_,_,_,_,_,_,_,_,_,_,_,_,_,_,_,_,_,_,_,_,_,_,_,_,_,_,_,_,_,_,_,_,_,_,_,_,_,_,_,_,_,_,_,_,_,_,_,_,_,_,_,_,_,_,_,_,_,_,_,_,_,_,_,_,_,_,_,_,_,_,hj,rfl⟩,?_⟩;rw [HX.out,hj.rs.at];have:=hj.asz;omega
      ·have qe:((E:Int) == 0)=false:=by simp;omega
       have HEE:Hid (E≠0):=he;clear he
       go_wp2_with (first|(go_at_call 83;refine (HBl.out _).mono ?_;rintro e w1 ⟨rfl,hb1⟩;have hr1:=Rq.below HR.out hb1;have z1:=(HC.out _ _ _ hr1).2.2)|(go_at_call 85;refine (HSt.out _ hr1).mono ?_;rintro e w2 ⟨rfl,hr2⟩;obtain ⟨y0,y1,y2⟩:=HC.out _ _ _ hr2)|(go_at_call 86;refine (HLt.out _ hr2).mono ?_;rintro e w3 ⟨rfl,hw⟩;replace hw:=hw.symm;subst hw)|(go_at_call 87;refine (HDg.out _).mono ?_;rintro e w4 ⟨rfl,hw⟩;replace hw:=hw.symm;subst hw)|(go_at_call 88;refine (HTok.out _ hr2).mono ?_;rintro e w5 ⟨rfl,hr5⟩))
       obtain ⟨hj,he2⟩:=HJ.out.bad d1 HN.out.1 HN.out.2 HK0.out.1 (by decide) (by rw [HK0.out.2];exact HEE.out) hr5;simp only [Exit.jump]
       go_ret
       rw [he2,HK0.out.2];exact ⟨rfl,hj⟩
     ·have HLt:Hid (∀V,Rs w0 V g s a a f l->Aa 86 #[.int .i64 (rpt s a)] V fun e w'=>e=.returned (.bool false)/\w'=V):=fun V hV=>by
       have h9:=bO (rpt s a) V (hK.below hV.bel).1;rw [show lt' (rpt s a)=false by rw [co s a d1];exact kl_4 hk] at h9;exact h9
      have HDg:Hid (∀V,Aa 87 #[.int .i32 (rpt s a)] V fun e w'=>e=.returned (.bool false)/\w'=V):=fun V=>by
       have h9:=aU (rpt s a) V;rw [bX,zB d1,AD,show bV (by8 s a)=false from kd_4 hk] at h9;exact h9
      have q34:(rpt s a == 34)=true:=by rw [Ch];exact (aO s a 34 (by decide) d1).2 (zh hk)
      obtain ⟨E,hE⟩:∃E,(ai s a 4).2=E:=⟨_,rfl⟩
      have HTok:Hid (∀V,Rs w0 V g s a a f l->Aa 89 #[.pointer (some ⟨g,0,none⟩)] V fun e w'=>e=.returned (.int .i64 (E:Nat))/\TP w0 w' g s 4 a f l):=fun V hV=>by
       rw [<-hE];exact qV hV hs' d1 hb0 hk hl9
      have HK0:Hid (aq s a=4/\(ai s a 4).2=E):=⟨hk,hE⟩;clear hk hb0 hE
      by_cases he:E=0
      ·subst he
       go_wp2_with (first|(go_at_call 83;refine (HBl.out _).mono ?_;rintro e w1 ⟨rfl,hb1⟩;have hr1:=Rq.below HR.out hb1;have z1:=(HC.out _ _ _ hr1).2.2)|(go_at_call 85;refine (HSt.out _ hr1).mono ?_;rintro e w2 ⟨rfl,hr2⟩;obtain ⟨y0,y1,y2⟩:=HC.out _ _ _ hr2)|(go_at_call 86;refine (HLt.out _ hr2).mono ?_;rintro e w3 ⟨rfl,hw⟩;replace hw:=hw.symm;subst hw)|(go_at_call 87;refine (HDg.out _).mono ?_;rintro e w4 ⟨rfl,hw⟩;replace hw:=hw.symm;subst hw)|(go_at_call 89;refine (HTok.out _ hr2).mono ?_;rintro e w5 ⟨rfl,hr5⟩))
       obtain ⟨hj,hlt⟩:=HJ.out.tok d1 HN.out.1 HN.out.2 HK0.out.1 (by decide) HK0.out.2 hr5
       go_step3
       refine ⟨rfl,⟨_,a,0,_,_,_,_,_,_,_,_,_,_,_,_,_,_,_,_,_,_,_,_,_,_,_,_,_,_,_,_,_,_,_,_,_,_,_,_,_,_,_,_,_,_,_,_,_,_,_,_,_,_,_,_,_,_,_,_,_,_,_,_,_,_,_,_,_,_,_,_,_,_,_,_,_,_,_,_,_,_,_,_,_,_,_,hj,rfl⟩,?_⟩;rw [HX.out,hj.rs.at];have:=hj.asz;omega
      ·have qe:((E:Int) == 0)=false:=by simp;omega
       have HEE:Hid (E≠0):=he;clear he
       go_wp2_with (first|(go_at_call 83;refine (HBl.out _).mono ?_;rintro e w1 ⟨rfl,hb1⟩;have hr1:=Rq.below HR.out hb1;have z1:=(HC.out _ _ _ hr1).2.2)|(go_at_call 85;refine (HSt.out _ hr1).mono ?_;rintro e w2 ⟨rfl,hr2⟩;obtain ⟨y0,y1,y2⟩:=HC.out _ _ _ hr2)|(go_at_call 86;refine (HLt.out _ hr2).mono ?_;rintro e w3 ⟨rfl,hw⟩;replace hw:=hw.symm;subst hw)|(go_at_call 87;refine (HDg.out _).mono ?_;rintro e w4 ⟨rfl,hw⟩;replace hw:=hw.symm;subst hw)|(go_at_call 89;refine (HTok.out _ hr2).mono ?_;rintro e w5 ⟨rfl,hr5⟩))
       obtain ⟨hj,he2⟩:=HJ.out.bad d1 HN.out.1 HN.out.2 HK0.out.1 (by decide) (by rw [HK0.out.2];exact HEE.out) hr5;simp only [Exit.jump]
       go_ret
       rw [he2,HK0.out.2];exact ⟨rfl,hj⟩
     ·have HLt:Hid (∀V,Rs w0 V g s a a f l->Aa 86 #[.int .i64 (rpt s a)] V fun e w'=>e=.returned (.bool false)/\w'=V):=fun V hV=>by
       have h9:=bO (rpt s a) V (hK.below hV.bel).1;rw [show lt' (rpt s a)=false by rw [co s a d1];exact kl_5 hk] at h9;exact h9
      have HDg:Hid (∀V,Aa 87 #[.int .i32 (rpt s a)] V fun e w'=>e=.returned (.bool false)/\w'=V):=fun V=>by
       have h9:=aU (rpt s a) V;rw [bX,zB d1,AD,show bV (by8 s a)=false from kd_5 hk] at h9;exact h9
      have q34:(rpt s a == 34)=false:=by rw [zS];exact fun h=>kq_5 hk ((aO s a 34 (by decide) d1).1 h)
      have q39:(rpt s a == 39)=true:=by rw [Ch];exact (aO s a 39 (by decide) d1).2 (ze hk)
      obtain ⟨E,hE⟩:∃E,(ai s a 5).2=E:=⟨_,rfl⟩
      have HTok:Hid (∀V,Rs w0 V g s a a f l->Aa 89 #[.pointer (some ⟨g,0,none⟩)] V fun e w'=>e=.returned (.int .i64 (E:Nat))/\TP w0 w' g s 5 a f l):=fun V hV=>by
       rw [<-hE];exact tV hV hs' d1 hb0 hk hl9
      have HK0:Hid (aq s a=5/\(ai s a 5).2=E):=⟨hk,hE⟩;clear hk hb0 hE
      by_cases he:E=0
      ·subst he
       go_wp2_with (first|(go_at_call 83;refine (HBl.out _).mono ?_;rintro e w1 ⟨rfl,hb1⟩;have hr1:=Rq.below HR.out hb1;have z1:=(HC.out _ _ _ hr1).2.2)|(go_at_call 85;refine (HSt.out _ hr1).mono ?_;rintro e w2 ⟨rfl,hr2⟩;obtain ⟨y0,y1,y2⟩:=HC.out _ _ _ hr2)|(go_at_call 86;refine (HLt.out _ hr2).mono ?_;rintro e w3 ⟨rfl,hw⟩;replace hw:=hw.symm;subst hw)|(go_at_call 87;refine (HDg.out _).mono ?_;rintro e w4 ⟨rfl,hw⟩;replace hw:=hw.symm;subst hw)|(go_at_call 89;refine (HTok.out _ hr2).mono ?_;rintro e w5 ⟨rfl,hr5⟩))
       obtain ⟨hj,hlt⟩:=HJ.out.tok d1 HN.out.1 HN.out.2 HK0.out.1 (by decide) HK0.out.2 hr5
       go_step3
       refine ⟨rfl,⟨_,a,0,_,_,_,_,_,_,_,_,_,_,_,_,_,_,_,_,_,_,_,_,_,_,_,_,_,_,_,_,_,_,_,_,_,_,_,_,_,_,_,_,_,_,_,_,_,_,_,_,_,_,_,_,_,_,_,_,_,_,_,_,_,_,_,_,_,_,_,_,_,_,_,_,_,_,_,_,_,_,_,_,_,_,_,hj,rfl⟩,?_⟩;rw [HX.out,hj.rs.at];have:=hj.asz;omega
      ·have qe:((E:Int) == 0)=false:=by simp;omega
       have HEE:Hid (E≠0):=he;clear he
       go_wp2_with (first|(go_at_call 83;refine (HBl.out _).mono ?_;rintro e w1 ⟨rfl,hb1⟩;have hr1:=Rq.below HR.out hb1;have z1:=(HC.out _ _ _ hr1).2.2)|(go_at_call 85;refine (HSt.out _ hr1).mono ?_;rintro e w2 ⟨rfl,hr2⟩;obtain ⟨y0,y1,y2⟩:=HC.out _ _ _ hr2)|(go_at_call 86;refine (HLt.out _ hr2).mono ?_;rintro e w3 ⟨rfl,hw⟩;replace hw:=hw.symm;subst hw)|(go_at_call 87;refine (HDg.out _).mono ?_;rintro e w4 ⟨rfl,hw⟩;replace hw:=hw.symm;subst hw)|(go_at_call 89;refine (HTok.out _ hr2).mono ?_;rintro e w5 ⟨rfl,hr5⟩))
       obtain ⟨hj,he2⟩:=HJ.out.bad d1 HN.out.1 HN.out.2 HK0.out.1 (by decide) (by rw [HK0.out.2];exact HEE.out) hr5;simp only [Exit.jump]
       go_ret
       rw [he2,HK0.out.2];exact ⟨rfl,hj⟩
     ·have HLt:Hid (∀V,Rs w0 V g s a a f l->Aa 86 #[.int .i64 (rpt s a)] V fun e w'=>e=.returned (.bool false)/\w'=V):=fun V hV=>by
       have h9:=bO (rpt s a) V (hK.below hV.bel).1;rw [show lt' (rpt s a)=false by rw [co s a d1];exact kl_6 hk] at h9;exact h9
      have HDg:Hid (∀V,Aa 87 #[.int .i32 (rpt s a)] V fun e w'=>e=.returned (.bool false)/\w'=V):=fun V=>by
       have h9:=aU (rpt s a) V;rw [bX,zB d1,AD,show bV (by8 s a)=false from kd_6 hk] at h9;exact h9
      have q34:(rpt s a == 34)=false:=by rw [zS];exact fun h=>kq_6 hk ((aO s a 34 (by decide) d1).1 h)
      have q39:(rpt s a == 39)=false:=by rw [zS];exact fun h=>kc_6 hk ((aO s a 39 (by decide) d1).1 h)
      have q123:(rpt s a == 123)=false:=by rw [zS];exact fun h=>kb_6 hk ((aO s a 123 (by decide) d1).1 h)
      have HPr:Hid (∀V,Aa 90 #[.string (s.extract a s.size),.string ⟨#[47,47]⟩] V fun e w'=>e=.returned (.bool false)/\w'=V):=fun V=>by
       have h9:=ke (s.extract a s.size) ⟨#[47,47]⟩ V;rw [fG s _ a (by omega),show pre s a ⟨#[47,47]⟩=false from kp_6 hk d1] at h9;exact h9
      obtain ⟨E,hE⟩:∃E,(ai s a 6).2=E:=⟨_,rfl⟩
      have HTok:Hid (∀V,Rs w0 V g s a a f l->Aa 92 #[.pointer (some ⟨g,0,none⟩)] V fun e w'=>e=.returned (.int .i64 (E:Nat))/\TP w0 w' g s 6 a f l):=fun V hV=>by
       rw [<-hE];exact rl hK hV hs' d1 hb0 hk hl9
      have HK0:Hid (aq s a=6/\(ai s a 6).2=E):=⟨hk,hE⟩;clear hk hb0 hE
      by_cases he:E=0
      ·subst he
       go_wp2_with (first|(go_at_call 83;refine (HBl.out _).mono ?_;rintro e w1 ⟨rfl,hb1⟩;have hr1:=Rq.below HR.out hb1;have z1:=(HC.out _ _ _ hr1).2.2)|(go_at_call 85;refine (HSt.out _ hr1).mono ?_;rintro e w2 ⟨rfl,hr2⟩;obtain ⟨y0,y1,y2⟩:=HC.out _ _ _ hr2)|(go_at_call 86;refine (HLt.out _ hr2).mono ?_;rintro e w3 ⟨rfl,hw⟩;replace hw:=hw.symm;subst hw)|(go_at_call 87;refine (HDg.out _).mono ?_;rintro e w4 ⟨rfl,hw⟩;replace hw:=hw.symm;subst hw))
       go_quiet ((go_at_call 90;exact Calls.quiet_of_same (HPr.out _)))
       go_wp2_with (first|(go_at_call 92;refine (HTok.out _ (Rq.below hr2 (bG _ _))).mono ?_;rintro e w5 ⟨rfl,hr5⟩))
       obtain ⟨hj,hlt⟩:=HJ.out.tok d1 HN.out.1 HN.out.2 HK0.out.1 (by decide) HK0.out.2 hr5
       go_step3
       refine ⟨rfl,⟨_,a,0,_,_,_,_,_,_,_,_,_,_,_,_,_,_,_,_,_,_,_,_,_,_,_,_,_,_,_,_,_,_,_,_,_,_,_,_,_,_,_,_,_,_,_,_,_,_,_,_,_,_,_,_,_,_,_,_,_,_,_,_,_,_,_,_,_,_,_,_,_,_,_,_,_,_,_,_,_,_,_,_,_,_,_,hj,rfl⟩,?_⟩;rw [HX.out,hj.rs.at];have:=hj.asz;omega
      ·have qe:((E:Int) == 0)=false:=by simp;omega
       have HEE:Hid (E≠0):=he;clear he
       go_wp2_with (first|(go_at_call 83;refine (HBl.out _).mono ?_;rintro e w1 ⟨rfl,hb1⟩;have hr1:=Rq.below HR.out hb1;have z1:=(HC.out _ _ _ hr1).2.2)|(go_at_call 85;refine (HSt.out _ hr1).mono ?_;rintro e w2 ⟨rfl,hr2⟩;obtain ⟨y0,y1,y2⟩:=HC.out _ _ _ hr2)|(go_at_call 86;refine (HLt.out _ hr2).mono ?_;rintro e w3 ⟨rfl,hw⟩;replace hw:=hw.symm;subst hw)|(go_at_call 87;refine (HDg.out _).mono ?_;rintro e w4 ⟨rfl,hw⟩;replace hw:=hw.symm;subst hw))
       go_quiet ((go_at_call 90;exact Calls.quiet_of_same (HPr.out _)))
       go_wp2_with (first|(go_at_call 92;refine (HTok.out _ (Rq.below hr2 (bG _ _))).mono ?_;rintro e w5 ⟨rfl,hr5⟩))
       obtain ⟨hj,he2⟩:=HJ.out.bad d1 HN.out.1 HN.out.2 HK0.out.1 (by decide) (by rw [HK0.out.2];exact HEE.out) hr5;simp only [Exit.jump]
       go_ret
       rw [he2,HK0.out.2];exact ⟨rfl,hj⟩
     ·have HLt:Hid (∀V,Rs w0 V g s a a f l->Aa 86 #[.int .i64 (rpt s a)] V fun e w'=>e=.returned (.bool false)/\w'=V):=fun V hV=>by
       have h9:=bO (rpt s a) V (hK.below hV.bel).1;rw [show lt' (rpt s a)=false by rw [co s a d1];exact kl_7 hk] at h9;exact h9
      have HDg:Hid (∀V,Aa 87 #[.int .i32 (rpt s a)] V fun e w'=>e=.returned (.bool false)/\w'=V):=fun V=>by
       have h9:=aU (rpt s a) V;rw [bX,zB d1,AD,show bV (by8 s a)=false from kd_7 hk] at h9;exact h9
      have q34:(rpt s a == 34)=false:=by rw [zS];exact fun h=>kq_7 hk ((aO s a 34 (by decide) d1).1 h)
      have q39:(rpt s a == 39)=false:=by rw [zS];exact fun h=>kc_7 hk ((aO s a 39 (by decide) d1).1 h)
      have q123:(rpt s a == 123)=false:=by rw [zS];exact fun h=>kb_7 hk ((aO s a 123 (by decide) d1).1 h)
      have HPr:Hid (∀V,Aa 90 #[.string (s.extract a s.size),.string ⟨#[47,47]⟩] V fun e w'=>e=.returned (.bool true)/\w'=V):=fun V=>by
       have h9:=ke (s.extract a s.size) ⟨#[47,47]⟩ V;rw [fG s _ a (by omega),show pre s a ⟨#[47,47]⟩=true from kp_7 hk d1] at h9;exact h9
      obtain ⟨E,hE⟩:∃E,(ai s a 7).2=E:=⟨_,rfl⟩
      have HTok:Hid (∀V,Rs w0 V g s a a f l->Aa 91 #[.pointer (some ⟨g,0,none⟩)] V fun e w'=>e=.returned (.int .i64 (E:Nat))/\TP w0 w' g s 7 a f l):=fun V hV=>by
       rw [<-hE];exact su hV hs' d1 hb0 hk hl9
      have HK0:Hid (aq s a=7/\(ai s a 7).2=E):=⟨hk,hE⟩;clear hk hb0 hE
      by_cases he:E=0
      ·subst he
       go_wp2_with (first|(go_at_call 83;refine (HBl.out _).mono ?_;rintro e w1 ⟨rfl,hb1⟩;have hr1:=Rq.below HR.out hb1;have z1:=(HC.out _ _ _ hr1).2.2)|(go_at_call 85;refine (HSt.out _ hr1).mono ?_;rintro e w2 ⟨rfl,hr2⟩;obtain ⟨y0,y1,y2⟩:=HC.out _ _ _ hr2)|(go_at_call 86;refine (HLt.out _ hr2).mono ?_;rintro e w3 ⟨rfl,hw⟩;replace hw:=hw.symm;subst hw)|(go_at_call 87;refine (HDg.out _).mono ?_;rintro e w4 ⟨rfl,hw⟩;replace hw:=hw.symm;subst hw))
       go_quiet ((go_at_call 90;exact Calls.quiet_of_same (HPr.out _)))
       go_wp2_with (first|(go_at_call 91;refine (HTok.out _ (Rq.below hr2 (bG _ _))).mono ?_;rintro e w5 ⟨rfl,hr5⟩))
       obtain ⟨hj,hlt⟩:=HJ.out.tok d1 HN.out.1 HN.out.2 HK0.out.1 (by decide) HK0.out.2 hr5
       go_step3
       refine ⟨rfl,⟨_,a,0,_,_,_,_,_,_,_,_,_,_,_,_,_,_,_,_,_,_,_,_,_,_,_,_,_,_,_,_,_,_,_,_,_,_,_,_,_,_,_,_,_,_,_,_,_,_,_,_,_,_,_,_,_,_,_,_,_,_,_,_,_,_,_,_,_,_,_,_,_,_,_,_,_,_,_,_,_,_,_,_,_,_,_,hj,rfl⟩,?_⟩;rw [HX.out,hj.rs.at];have:=hj.asz;omega
      ·have qe:((E:Int) == 0)=false:=by simp;omega
       have HEE:Hid (E≠0):=he;clear he
       go_wp2_with (first|(go_at_call 83;refine (HBl.out _).mono ?_;rintro e w1 ⟨rfl,hb1⟩;have hr1:=Rq.below HR.out hb1;have z1:=(HC.out _ _ _ hr1).2.2)|(go_at_call 85;refine (HSt.out _ hr1).mono ?_;rintro e w2 ⟨rfl,hr2⟩;obtain ⟨y0,y1,y2⟩:=HC.out _ _ _ hr2)|(go_at_call 86;refine (HLt.out _ hr2).mono ?_;rintro e w3 ⟨rfl,hw⟩;replace hw:=hw.symm;subst hw)|(go_at_call 87;refine (HDg.out _).mono ?_;rintro e w4 ⟨rfl,hw⟩;replace hw:=hw.symm;subst hw))
       go_quiet ((go_at_call 90;exact Calls.quiet_of_same (HPr.out _)))
       go_wp2_with (first|(go_at_call 91;refine (HTok.out _ (Rq.below hr2 (bG _ _))).mono ?_;rintro e w5 ⟨rfl,hr5⟩))
       obtain ⟨hj,he2⟩:=HJ.out.bad d1 HN.out.1 HN.out.2 HK0.out.1 (by decide) (by rw [HK0.out.2];exact HEE.out) hr5;simp only [Exit.jump]
       go_ret
       rw [he2,HK0.out.2];exact ⟨rfl,hj⟩
     ·have HLt:Hid (∀V,Rs w0 V g s a a f l->Aa 86 #[.int .i64 (rpt s a)] V fun e w'=>e=.returned (.bool false)/\w'=V):=fun V hV=>by
       have h9:=bO (rpt s a) V (hK.below hV.bel).1;rw [show lt' (rpt s a)=false by rw [co s a d1];exact kl_8 hk] at h9;exact h9
      have HDg:Hid (∀V,Aa 87 #[.int .i32 (rpt s a)] V fun e w'=>e=.returned (.bool false)/\w'=V):=fun V=>by
       have h9:=aU (rpt s a) V;rw [bX,zB d1,AD,show bV (by8 s a)=false from kd_8 hk] at h9;exact h9
      have q34:(rpt s a == 34)=false:=by rw [zS];exact fun h=>kq_8 hk ((aO s a 34 (by decide) d1).1 h)
      have q39:(rpt s a == 39)=false:=by rw [zS];exact fun h=>kc_8 hk ((aO s a 39 (by decide) d1).1 h)
      have q123:(rpt s a == 123)=true:=by rw [Ch];exact (aO s a 123 (by decide) d1).2 (zb hk)
      obtain ⟨E,hE⟩:∃E,(ai s a 8).2=E:=⟨_,rfl⟩
      have HTok:Hid (∀V,Rs w0 V g s a a f l->Aa 91 #[.pointer (some ⟨g,0,none⟩)] V fun e w'=>e=.returned (.int .i64 (E:Nat))/\TP w0 w' g s 8 a f l):=fun V hV=>by
       rw [<-hE];exact qH hV hs' d1 hb0 hk hl9
      have HK0:Hid (aq s a=8/\(ai s a 8).2=E):=⟨hk,hE⟩;clear hk hb0 hE
      by_cases he:E=0
      ·subst he
       go_wp2_with (first|(go_at_call 83;refine (HBl.out _).mono ?_;rintro e w1 ⟨rfl,hb1⟩;have hr1:=Rq.below HR.out hb1;have z1:=(HC.out _ _ _ hr1).2.2)|(go_at_call 85;refine (HSt.out _ hr1).mono ?_;rintro e w2 ⟨rfl,hr2⟩;obtain ⟨y0,y1,y2⟩:=HC.out _ _ _ hr2)|(go_at_call 86;refine (HLt.out _ hr2).mono ?_;rintro e w3 ⟨rfl,hw⟩;replace hw:=hw.symm;subst hw)|(go_at_call 87;refine (HDg.out _).mono ?_;rintro e w4 ⟨rfl,hw⟩;replace hw:=hw.symm;subst hw))
       go_quiet (fail)
       go_wp2_with (first|(go_at_call 91;refine (HTok.out _ (Rq.below hr2 (bG _ _))).mono ?_;rintro e w5 ⟨rfl,hr5⟩))
       obtain ⟨hj,hlt⟩:=HJ.out.tok d1 HN.out.1 HN.out.2 HK0.out.1 (by decide) HK0.out.2 hr5
       go_step3
       refine ⟨rfl,⟨_,a,0,_,_,_,_,_,_,_,_,_,_,_,_,_,_,_,_,_,_,_,_,_,_,_,_,_,_,_,_,_,_,_,_,_,_,_,_,_,_,_,_,_,_,_,_,_,_,_,_,_,_,_,_,_,_,_,_,_,_,_,_,_,_,_,_,_,_,_,_,_,_,_,_,_,_,_,_,_,_,_,_,_,_,_,hj,rfl⟩,?_⟩;rw [HX.out,hj.rs.at];have:=hj.asz;omega
      ·have qe:((E:Int) == 0)=false:=by simp;omega
       have HEE:Hid (E≠0):=he;clear he
       go_wp2_with (first|(go_at_call 83;refine (HBl.out _).mono ?_;rintro e w1 ⟨rfl,hb1⟩;have hr1:=Rq.below HR.out hb1;have z1:=(HC.out _ _ _ hr1).2.2)|(go_at_call 85;refine (HSt.out _ hr1).mono ?_;rintro e w2 ⟨rfl,hr2⟩;obtain ⟨y0,y1,y2⟩:=HC.out _ _ _ hr2)|(go_at_call 86;refine (HLt.out _ hr2).mono ?_;rintro e w3 ⟨rfl,hw⟩;replace hw:=hw.symm;subst hw)|(go_at_call 87;refine (HDg.out _).mono ?_;rintro e w4 ⟨rfl,hw⟩;replace hw:=hw.symm;subst hw))
       go_quiet (fail)
       go_wp2_with (first|(go_at_call 91;refine (HTok.out _ (Rq.below hr2 (bG _ _))).mono ?_;rintro e w5 ⟨rfl,hr5⟩))
       obtain ⟨hj,he2⟩:=HJ.out.bad d1 HN.out.1 HN.out.2 HK0.out.1 (by decide) (by rw [HK0.out.2];exact HEE.out) hr5;simp only [Exit.jump]
       go_ret
       rw [he2,HK0.out.2];exact ⟨rfl,hj⟩
end Go.Proofs.YtpdlohfdjiaegaaGreatDoor.Lx
