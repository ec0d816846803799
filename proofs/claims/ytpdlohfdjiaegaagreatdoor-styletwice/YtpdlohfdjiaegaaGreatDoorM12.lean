import Derived.Test.YtpdlohfdjiaegaaGreatDoorM10
import Derived.Test.YtpdlohfdjiaegaaGreatDoorM11
set_option linter.unusedVariables false
set_option linter.unusedSimpArgs false
namespace Go.Proofs.YtpdlohfdjiaegaaGreatDoor.Lx
open Go.RowKit
variable {s:ByteArray}{a g b f:Nat}{w0 W W':World}{l:List Tv}
theorem tO (s:ByteArray) (a:Nat):ag s a=0\/ag s a=1\/ag s a=3\/ag s a=4\/ag s a=5\/ag s a=6\/ag s a=7\/ag s a=8:=by
 unfold ag
 repeat' split
 all_goals simp
theorem aR {k:Nat}(h:ag s a=k):(k≠1->(gd s a && lt' (dp s a))=false)/\(k≠1->k≠3->bN (by8 s a)=false)/\(k≠1->k≠3->k≠4->by8 s a≠34)/\(k≠1->k≠3->k≠4->k≠5->by8 s a≠39) /\
  (k≠1->k≠3->k≠4->k≠5->k≠7->¬(by8 s a=47/\a+1<s.size/\by8 s (a+1)=47))/\(k≠1->k≠3->k≠4->k≠5->k≠7->k≠8->by8 s a≠123)/\(k≠1->k≠3->k≠4->k≠5->k≠7->k≠8->k≠6->(sg s a).size=0):=by
 unfold ag at h
 by_cases c1:(gd s a && lt' (dp s a))=true
 ·rw [if_pos c1] at h;subst h;exact ⟨fun h=>absurd rfl h,fun h=>absurd rfl h,fun h=>absurd rfl h,fun h=>absurd rfl h,fun h=>absurd rfl h,fun h=>absurd rfl h,fun h=>absurd rfl h⟩
 ·rw [if_neg c1] at h;have e1:(gd s a && lt' (dp s a))=false:=by simpa using c1
  by_cases c2:bN (by8 s a)=true
  ·rw [if_pos c2] at h;subst h;exact ⟨fun _=>e1,fun _ h=>absurd rfl h,fun _ h=>absurd rfl h,fun _ h=>absurd rfl h,fun _ h=>absurd rfl h,fun _ h=>absurd rfl h,fun _ h=>absurd rfl h⟩
  ·rw [if_neg c2] at h;have e2:bN (by8 s a)=false:=by simpa using c2
   by_cases c3:by8 s a=34
   ·rw [if_pos c3] at h;subst h;exact ⟨fun _=>e1,fun _ _=>e2,fun _ _ h=>absurd rfl h,fun _ _ h=>absurd rfl h,fun _ _ h=>absurd rfl h,fun _ _ h=>absurd rfl h,fun _ _ h=>absurd rfl h⟩
   ·rw [if_neg c3] at h
    by_cases c4:by8 s a=39
    ·rw [if_pos c4] at h;subst h;exact ⟨fun _=>e1,fun _ _=>e2,fun _ _ _=>c3,fun _ _ _ h=>absurd rfl h,fun _ _ _ h=>absurd rfl h,fun _ _ _ h=>absurd rfl h,fun _ _ _ h=>absurd rfl h⟩
    ·rw [if_neg c4] at h
     by_cases c5:by8 s a=47/\a+1<s.size/\by8 s (a+1)=47
     ·rw [if_pos c5] at h;subst h;exact ⟨fun _=>e1,fun _ _=>e2,fun _ _ _=>c3,fun _ _ _ _=>c4,fun _ _ _ _ h=>absurd rfl h,fun _ _ _ _ h=>absurd rfl h,fun _ _ _ _ h=>absurd rfl h⟩
     ·rw [if_neg c5] at h
      by_cases c6:by8 s a=123
      ·rw [if_pos c6] at h;subst h;exact ⟨fun _=>e1,fun _ _=>e2,fun _ _ _=>c3,fun _ _ _ _=>c4,fun _ _ _ _ _=>c5,fun _ _ _ _ _ h=>absurd rfl h,fun _ _ _ _ _ h=>absurd rfl h⟩
      ·rw [if_neg c6] at h;refine ⟨fun _=>e1,fun _ _=>e2,fun _ _ _=>c3,fun _ _ _ _=>c4,fun _ _ _ _ _=>c5,fun _ _ _ _ _ _=>c6,fun _ _ _ _ _ _ h6=>?_⟩
       by_cases c7:(sg s a).size≠0
       ·rw [if_pos c7] at h;exact absurd h.symm h6
       ·exact Decidable.not_not.1 c7
theorem lF :pre s a ⟨#[47,47]⟩=decide (by8 s a=47/\a+1<s.size/\by8 s (a+1)=47):=by
 unfold pre;rw [decide_eq_decide];have hz:(⟨#[47,47]⟩:ByteArray).size=2:=rfl;rw [hz];constructor
 ·rintro ⟨h1,h2⟩;have e0:=aF s a (a+2) 0 (by omega);have e1:=aF s a (a+2) 1 (by omega);rw [h2] at e0 e1;exact ⟨by rw [show a=a+0 by omega,<-e0];rfl,by omega,by rw [<-e1];rfl⟩
 ·rintro ⟨h1,h2,h3⟩;refine ⟨by omega,cZ _ _ (by rw [aj s _ _ (by omega)];show a+2-a=2;omega) (fun j hj=>?_)⟩;rw [aj s _ _ (by omega)] at hj;rw [aF s a _ j (by omega)]
  rcases (show j=0\/j=1 by omega) with rfl|rfl
  ·rw [Nat.add_zero,h1];rfl
  ·rw [h3];rfl
theorem kp_7 (hk:ag s a=7) (d1:a<s.size):pre s a ⟨#[47,47]⟩=true:=by rw [lF];exact decide_eq_true (Bu hk)
theorem kp_6 (hk:ag s a=6) (d1:a<s.size):pre s a ⟨#[47,47]⟩=false:=by rw [lF];exact decide_eq_false ((aR hk).2.2.2.2.1 (by decide) (by decide) (by decide) (by decide) (by decide))
theorem kp_0 (hk:ag s a=0) (d1:a<s.size):pre s a ⟨#[47,47]⟩=false:=by rw [lF];exact decide_eq_false ((aR hk).2.2.2.2.1 (by decide) (by decide) (by decide) (by decide) (by decide))
theorem kl_1 (hk:ag s a=1):(gd s a && lt' (dp s a))=true:=Cs hk
theorem kd_3 (hk:ag s a=3):bN (by8 s a)=true:=Cr hk
theorem kl_3 (hk:ag s a=3):(gd s a && lt' (dp s a))=false:=(aR hk).1 (by decide)
theorem kl_4 (hk:ag s a=4):(gd s a && lt' (dp s a))=false:=(aR hk).1 (by decide)
theorem kl_5 (hk:ag s a=5):(gd s a && lt' (dp s a))=false:=(aR hk).1 (by decide)
theorem kl_7 (hk:ag s a=7):(gd s a && lt' (dp s a))=false:=(aR hk).1 (by decide)
theorem kl_8 (hk:ag s a=8):(gd s a && lt' (dp s a))=false:=(aR hk).1 (by decide)
theorem kl_6 (hk:ag s a=6):(gd s a && lt' (dp s a))=false:=(aR hk).1 (by decide)
theorem kl_0 (hk:ag s a=0):(gd s a && lt' (dp s a))=false:=(aR hk).1 (by decide)
theorem kd_4 (hk:ag s a=4):bN (by8 s a)=false:=(aR hk).2.1 (by decide) (by decide)
theorem kd_5 (hk:ag s a=5):bN (by8 s a)=false:=(aR hk).2.1 (by decide) (by decide)
theorem kd_7 (hk:ag s a=7):bN (by8 s a)=false:=(aR hk).2.1 (by decide) (by decide)
theorem kd_8 (hk:ag s a=8):bN (by8 s a)=false:=(aR hk).2.1 (by decide) (by decide)
theorem kd_6 (hk:ag s a=6):bN (by8 s a)=false:=(aR hk).2.1 (by decide) (by decide)
theorem kd_0 (hk:ag s a=0):bN (by8 s a)=false:=(aR hk).2.1 (by decide) (by decide)
theorem kq_5 (hk:ag s a=5):by8 s a≠34:=(aR hk).2.2.1 (by decide) (by decide) (by decide)
theorem kq_7 (hk:ag s a=7):by8 s a≠34:=(aR hk).2.2.1 (by decide) (by decide) (by decide)
theorem kq_8 (hk:ag s a=8):by8 s a≠34:=(aR hk).2.2.1 (by decide) (by decide) (by decide)
theorem kq_6 (hk:ag s a=6):by8 s a≠34:=(aR hk).2.2.1 (by decide) (by decide) (by decide)
theorem kq_0 (hk:ag s a=0):by8 s a≠34:=(aR hk).2.2.1 (by decide) (by decide) (by decide)
theorem kc_7 (hk:ag s a=7):by8 s a≠39:=(aR hk).2.2.2.1 (by decide) (by decide) (by decide) (by decide)
theorem kc_8 (hk:ag s a=8):by8 s a≠39:=(aR hk).2.2.2.1 (by decide) (by decide) (by decide) (by decide)
theorem kc_6 (hk:ag s a=6):by8 s a≠39:=(aR hk).2.2.2.1 (by decide) (by decide) (by decide) (by decide)
theorem kc_0 (hk:ag s a=0):by8 s a≠39:=(aR hk).2.2.2.1 (by decide) (by decide) (by decide) (by decide)
theorem kb_7 (hk:ag s a=7):by8 s a≠123:=by rw [(Bu hk).1];decide
theorem kb_6 (hk:ag s a=6):by8 s a≠123:=(aR hk).2.2.2.2.2.1 (by decide) (by decide) (by decide) (by decide) (by decide) (by decide)
theorem kb_0 (hk:ag s a=0):by8 s a≠123:=(aR hk).2.2.2.2.2.1 (by decide) (by decide) (by decide) (by decide) (by decide) (by decide)
theorem kz_0 (hk:ag s a=0):(sg s a).size=0:=(aR hk).2.2.2.2.2.2 (by decide) (by decide) (by decide) (by decide) (by decide) (by decide) (by decide)
structure JR (w0 W:World) (g:Nat) (s:ByteArray) (a b f:Nat) (l:List Tv):Prop where
 asz:a<=s.size
 ba:b<=a
 bda:bd s a
 bdb:bd s b
 rs:Rs w0 W g s a b f l
 fa:f<=a
 la:l.length<=a
 toks:l++(fnd s a f).1.map (tv s)=(scn s).1.map (tv s)
 err:(fnd s a f).2=(scn s).2
def RP (w0 w':World) (g:Nat) (s:ByteArray):Prop:=∃a' b' f',Rs w0 w' g s a' b' f' ((scn s).1.map (tv s))/\bd s a'/\bd s b'/\b'<=a'/\((scn s).2.1=102->a'=(scn s).2.2)/\((scn s).2.1≠0->(scn s).2.1≠102->b'=(scn s).2.2)
theorem JR.done (h:JR w0 W g s a b f l) (ha:s.size<=a):RP w0 W g s/\(scn s).2.1=0:=by
 have e:=cL s a f ha;have h1:=h.toks;have h2:=h.err;rw [e] at h1 h2;rw [List.map_nil,List.append_nil] at h1;refine ⟨⟨a,b,f,by rw [<-h1];exact h.rs,h.bda,h.bdb,h.ba,?_,?_⟩,by rw [<-h2]⟩
 ·rw [<-h2];intro h;cases h
 ·rw [<-h2];intro h;exact absurd rfl h
theorem JR.feed (h:JR w0 W g s a b f l) (ha:a<s.size) (h10:by8 s a=10) (hr:Rs w0 W' g s (a+rsz s a) b (if rpt s a=10 then f+1 else f) l):JR w0 W' g s (a+1) b (f+1) l:=by
 have e:=bF s a f ha;rw [if_pos h10] at e;have e1:rpt s a=10:=(aQ s a 10 (by decide) ha).2 h10;rw [if_pos e1,bh ha,(aM s a (by omega)).1] at hr;have h1:=h.ba;have h2:=h.fa;have h3:=h.la;exact ⟨ha,by omega,(f9 s a ha (by omega)).2,h.bdb,hr,by omega,by omega,by rw [<-e];exact h.toks,by rw [<-e];exact h.err⟩
theorem JR.blank (h:JR w0 W g s a b f l) (ha:a<s.size) (h10:by8 s a≠10) (hbl:bV (by8 s a)=true) (hr:Rs w0 W' g s (a+rsz s a) b (if rpt s a=10 then f+1 else f) l):JR w0 W' g s (a+1) b f l:=by
 have e:=bF s a f ha;rw [if_neg h10,if_pos hbl] at e;have h8:=Bt hbl;have hn10:¬rpt s a=10:=fun h=>h10 ((aQ s a 10 (by decide) ha).1 h)
 rw [if_neg hn10,bh ha,(aM s a h8).1] at hr;have h1:=h.ba;have h2:=h.fa;have h3:=h.la;exact ⟨ha,by omega,(f9 s a ha h8).2,h.bdb,hr,by omega,by omega,by rw [<-e];exact h.toks,by rw [<-e];exact h.err⟩
theorem JR.tok (h:JR w0 W g s a b f l) (ha:a<s.size) (h10:by8 s a≠10) (hbl:bV (by8 s a)=false) {k:Nat}(hk:ag s a=k) (h0:k≠0) (hE:(ah s a k).2=0) (hT:TP w0 W' g s k a f l) :
  JR w0 W' g s (ah s a k).1 a 0 (l++[tv s (bI s k a (ah s a k).1 f)])/\a<(ah s a k).1:=by
 have e:=bF s a f ha;have hp:=cG s a k (ah s a k).1 ha hk h0 (Prod.ext rfl hE);have hbp:bd s (ah s a k).1:=Ba h.bda ha hk h0 rfl;unfold TP at hT;rw [if_pos hE] at hT;rw [if_neg h10,if_neg (by rw [hbl];decide),hk,if_neg h0,if_neg (by rw [hE];decide)] at e;have h3:=h.la;refine ⟨⟨hp.2,Nat.le_of_lt hp.1,hbp,h.bda,hT,Nat.zero_le _,by rw [List.length_append];simp;omega,?_,?_⟩,hp.1⟩
 ·have:=h.toks;rw [e] at this;rw [<-this];simp
 ·have:=h.err;rw [e] at this;exact this
theorem JR.bad (h:JR w0 W g s a b f l) (ha:a<s.size) (h10:by8 s a≠10) (hbl:bV (by8 s a)=false) {k:Nat}(hk:ag s a=k) (h0:k≠0) (hE:(ah s a k).2≠0) (hT:TP w0 W' g s k a f l) :
  RP w0 W' g s/\(scn s).2.1=(ah s a k).2:=by
 have e:=bF s a f ha;unfold TP at hT;rw [if_neg hE] at hT;rw [if_neg h10,if_neg (by rw [hbl];decide),hk,if_neg h0,if_pos hE] at e;have h1:=h.toks;have h2:=h.err;rw [e] at h1 h2;rw [List.map_nil,List.append_nil] at h1;obtain ⟨a',t1,t2,t3,t4⟩:=hT;have e1:(scn s).2.1=(ah s a k).2:=by rw [<-h2]
 have e2:(scn s).2.2=(ah s a k).1:=by rw [<-h2]
 refine ⟨⟨a',a,f,by rw [<-h1];exact t3,t1,h.bda,t2,fun h=>?_,fun _ h2=>?_⟩,e1⟩
 ·rw [e2];exact t4 (by rw [<-e1];exact h)
 ·rw [e2]
  rcases yW (p:=(ah s a k).1) (e:=(ah s a k).2) ha rfl hE with ⟨h5,_⟩|⟨h5,_⟩
  ·exact h5.symm
  ·exact absurd (by rw [e1];exact h5) h2
theorem JR.none (h:JR w0 W g s a b f l) (ha:a<s.size) (h10:by8 s a≠10) (hbl:bV (by8 s a)=false) (hk:ag s a=0) (hr:Rs w0 W' g s a a f l) :
  RP w0 W' g s/\(scn s).2.1=100:=by
 have e:=bF s a f ha;rw [if_neg h10,if_neg (by rw [hbl];decide),if_pos hk] at e;have h1:=h.toks;have h2:=h.err;rw [e] at h1 h2;rw [List.map_nil,List.append_nil] at h1;refine ⟨⟨a,a,f,by rw [<-h1];exact hr,h.bda,h.bda,Nat.le_refl _,?_,?_⟩,by rw [<-h2]⟩
 ·rw [<-h2];intro h;cases h
 ·rw [<-h2];intro _ _;rfl
theorem kb {P:Program}{a:Act}{w:World}{Q:Exit->Act->World->Prop}{r rest:Code}(l:Nat) (J:Act->World->Prop) (μ:Act->World->Nat) (hf:findLabel (r.seq ((Code.label l).seq rest)) l=some (Code.skip.seq rest))
  (first:r.wp P (Exit.then (fun a w=>J a w) (fun _ _ _=>False)) a w)
  (pass:∀a w,J a w->rest.wp P (Exit.jump l (fun a' w'=>J a' w'/\μ a' w' < μ a w) Q) a w):(Code.scope (r.seq ((Code.label l).seq rest))).wp P Q a w:=by
 refine wp_scope_jumps l J μ hf ?_ (fun a w h=>wp_seq (wp_skip (pass a w h)));refine wp_seq (wp_mono first ?_);intro e a' w' h;cases e with
 |normal=>
  refine wp_seq (wp_label ?_);refine wp_mono (pass a' w' h) ?_;intro e2 a2 w2 h2;cases e2 with
  |goto l'=>exact ⟨h2.1,h2.2.1⟩
  |normal=>exact h2
  |exit id=>exact h2
  |ret=>exact h2
  |panic ch=>exact h2
  |outgrown=>exact h2
 |goto l'=>exact h.elim
 |exit id=>exact h.elim
 |ret=>exact h.elim
 |panic ch=>exact h.elim
 |outgrown=>exact h.elim
set_option maxRecDepth 100000 in
set_option maxHeartbeats 8000000 in
theorem uL (hK:Kab w0) (h:Rs w0 W g s 0 0 0 []) (hs:s.size<=1000000000) :
  Da 51 #[.pointer (some ⟨g,0,none⟩)] W fun e w'=>e=.returned (.int .i64 ((scn s).2.1:Nat))/\RP w0 w' g s:=by
 have HJ0:Hid (JR w0 W g s 0 0 0 []):=⟨Nat.zero_le _,Nat.le_refl _,mw s,mw s,h,Nat.le_refl _,Nat.le_refl _,rfl,rfl⟩
 have HC:Hid (∀V a b,∀{f:Nat} {l:List Tv},Rs w0 V g s a b f l->V.cell? ⟨g,0,none⟩=some (.string s)/\V.cell? ⟨g,1,none⟩=some (.int .i64 a)/\V.cell? ⟨g,2,none⟩=some (.int .i32 (rpt s a))):=fun V a b f l hr=>by
  obtain ⟨h1',h2',v,h3,h4⟩:=hr;exact ⟨(Rq.cells h3).1,(Rq.cells h3).2.1,(Rq.cells h3).2.2.1⟩
 clear h
 go_enter Tryz.func51,Tryz.ntmps51
 go_wp2_with fail
 refine kb 0 (fun a' w'=>∃(a b f:Nat) (l:List Tv) (u1 u2 u3 u4 u5 u6 u7 u8 u9 u10 u11 u12 u13 u14 u15 u16 u17 u18 u19 u20 u21 u22 u23 u24 u25 u26 u27 u28 u29 u30 u31 u32 u33 u34 u35 u36 u37 u38 u39 u40 u41 u42 u43 u44 u45 u46 u47 u48 u49 u50 u51 u52 u53 u54 u55 u56 u57 u58 u59 u60 u61 u62 u63 u64 u65 u66 u67 u68 u69 u70 u71 u72 u73 u74 u75 u76 u77 u78 u79 u80 u81 u82:Value),Hid (JR w0 w' g s a b f l)/\a'={ tmps:=#[.pointer (some ⟨g,0,none⟩),u1,u2,u3,u4,u5,u6,u7,u8,u9,u10,u11,u12,u13,u14,u15,u16,u17,u18,u19,u20,u21,u22,u23,u24,u25,u26,u27,u28,u29,u30,u31,u32,u33,u34,u35,u36,u37,u38,u39,u40,u41,u42,u43,u44,u45,u46,u47,u48,u49,u50,u51,u52,u53,u54,u55,u56,u57,u58,u59,u60,u61,u62,u63,u64,u65,u66,u67,u68,u69,u70,u71,u72,u73,u74,u75,u76,u77,u78,u79,u80,u81,u82],defers:=[] }) (fun _ w'=>s.size-dR w' g 1) rfl ?_ ?_
 ·go_wp2_with fail
  exact ⟨0,0,0,[],_,_,_,_,_,_,_,_,_,_,_,_,_,_,_,_,_,_,_,_,_,_,_,_,_,_,_,_,_,_,_,_,_,_,_,_,_,_,_,_,_,_,_,_,_,_,_,_,_,_,_,_,_,_,_,_,_,_,_,_,_,_,_,_,_,_,_,_,_,_,_,_,_,_,_,_,_,_,_,_,_,_,HJ0,rfl⟩
 ·rintro a' w' ⟨a,b,f,l,u1,u2,u3,u4,u5,u6,u7,u8,u9,u10,u11,u12,u13,u14,u15,u16,u17,u18,u19,u20,u21,u22,u23,u24,u25,u26,u27,u28,u29,u30,u31,u32,u33,u34,u35,u36,u37,u38,u39,u40,u41,u42,u43,u44,u45,u46,u47,u48,u49,u50,u51,u52,u53,u54,u55,u56,u57,u58,u59,u60,u61,u62,u63,u64,u65,u66,u67,u68,u69,u70,u71,u72,u73,u74,u75,u76,u77,u78,u79,u80,u81,u82,HJ,rfl⟩;have HX:Hid (dR w' g 1=a):=HJ.out.rs.at;have HR:Hid (Rs w0 w' g s a b f l):=HJ.out.rs;have z0:=(HC.out _ _ _ HR.out).2.2;have hla:=HJ.out.la;have hfa:=HJ.out.fa;have hasz:=HJ.out.asz
  by_cases hd:s.size<=a
  ·rw [(bB s a).2 hd] at z0;have HE:=HJ.out.done hd;have HE2:Hid (RP w0 w' g s/\(scn s).2.1=0):=HE;clear HE hd
   go_wp2_with fail
   simp only [Exit.jump]
   go_ret
   rw [HE2.out.2];exact ⟨rfl,HE2.out.1⟩
  ·have d1:a<s.size:=by omega
   have e0:(rpt s a == -1)=false:=by rw [beq_eq_false_iff_ne];exact fun h=>hd ((bB s a).1 h)
   have rg:=lx s a;have rg0:0<=rpt s a:=by rw [ei d1];omega
   have hps:=nv HR.out (by omega) hasz (by omega);have HPs:Hid (∀V,Rs w0 V g s a b f l->Da 84 #[.pointer (some ⟨g,0,none⟩)] V fun e w'=>e=.returned (.tuple #[])/\Rs w0 w' g s (a+rsz s a) b (if rpt s a=10 then f+1 else f) l):=fun V hV=>nv hV (by omega) hasz (by omega)
   clear hps
   by_cases h10:by8 s a=10
   ·have q10:rpt s a=10:=(aQ s a 10 (by decide) d1).2 h10;have HJ2:Hid (∀V,Rs w0 V g s (a+rsz s a) b (if rpt s a=10 then f+1 else f) l->JR w0 V g s (a+1) b (f+1) l):=fun V hV=>HJ.out.feed d1 h10 hV
    rw [q10] at z0;clear h10 hd e0
    go_wp2_with (first|(go_at_call 84;refine (HPs.out _ HR.out).mono ?_;rintro e w1 ⟨rfl,hr1⟩;have hj:=HJ2.out _ hr1))
    go_step3
    refine ⟨rfl,⟨a+1,b,f+1,l,_,_,_,_,_,_,_,_,_,_,_,_,_,_,_,_,_,_,_,_,_,_,_,_,_,_,_,_,_,_,_,_,_,_,_,_,_,_,_,_,_,_,_,_,_,_,_,_,_,_,_,_,_,_,_,_,_,_,_,_,_,_,_,_,_,_,_,_,_,_,_,_,_,_,_,_,_,_,_,_,_,_,hj,rfl⟩,?_⟩;rw [HX.out,hj.rs.at];omega
   ·have q10:(rpt s a == 10)=false:=by rw [beq_eq_false_iff_ne];exact fun h=>h10 ((aQ s a 10 (by decide) d1).1 h)
    have hbp:=Cm s a d1
    by_cases hbl:bV (by8 s a)=true
    ·have HBl:Hid (∀V,Da 83 #[.int .i32 (rpt s a)] V fun e w'=>e=.returned (.bool true)/\Db V w'):=fun V=>by
      rw [<-hbl,<-hbp];exact iC _ _ rg0
     have HJ2:Hid (∀V,Rs w0 V g s (a+rsz s a) b (if rpt s a=10 then f+1 else f) l->JR w0 V g s (a+1) b f l):=fun V hV=>HJ.out.blank d1 h10 hbl hV
     clear h10 hd hbl hbp
     go_wp2_with (first|(go_at_call 83;refine (HBl.out _).mono ?_;rintro e w1 ⟨rfl,hb1⟩;have hr1:=Rq.below HR.out hb1;have z1:=(HC.out _ _ _ hr1).2.2)|(go_at_call 84;refine (HPs.out _ hr1).mono ?_;rintro e w2 ⟨rfl,hr2⟩;have hj:=HJ2.out _ hr2))
     go_step3
     refine ⟨rfl,⟨a+1,b,f,l,_,_,_,_,_,_,_,_,_,_,_,_,_,_,_,_,_,_,_,_,_,_,_,_,_,_,_,_,_,_,_,_,_,_,_,_,_,_,_,_,_,_,_,_,_,_,_,_,_,_,_,_,_,_,_,_,_,_,_,_,_,_,_,_,_,_,_,_,_,_,_,_,_,_,_,_,_,_,_,_,_,_,hj,rfl⟩,?_⟩;rw [HX.out,hj.rs.at];omega
    ·have hbl1:bV (by8 s a)=false:=by simpa using hbl
     have HBl:Hid (∀V,Da 83 #[.int .i32 (rpt s a)] V fun e w'=>e=.returned (.bool false)/\Db V w'):=fun V=>by
      rw [<-hbl1,<-hbp];exact iC _ _ rg0
     have hb0:=HJ.out.bda;have HSt:Hid (∀V,Rs w0 V g s a b f l->Da 85 #[.pointer (some ⟨g,0,none⟩)] V fun e w'=>e=.returned (.tuple #[])/\Rs w0 w' g s a a f l):=fun V hV=>xE hV (by omega) HJ.out.ba HJ.out.bdb hb0
     have hwr:IntKind.i64.wrap (rpt s a)=rpt s a:=by rw [IntKind.wrap_i64];omega
     have hl9:l.length<=1000000000:=by omega
     have HN:Hid (by8 s a≠10/\bV (by8 s a)=false):=⟨h10,hbl1⟩;have hs':s.size<=2147483647:=by omega
     have qs:(a:Int)<=s.size:=by omega
     have hcases:=tO s a;clear h10 hd hbl hbl1 hbp HPs
     rcases hcases with hk|hk|hk|hk|hk|hk|hk|hk
     ·have HLt:Hid (∀V,Rs w0 V g s a a f l->Da 86 #[.int .i64 (rpt s a)] V fun e w'=>e=.returned (.bool false)/\w'=V):=fun V hV=>by
       have h9:=cg (rpt s a) V (hK.below hV.bel).1;rw [show lt' (rpt s a)=false by rw [cC s a d1];exact kl_0 hk] at h9;exact h9
      have HDg:Hid (∀V,Da 87 #[.int .i32 (rpt s a)] V fun e w'=>e=.returned (.bool false)/\w'=V):=fun V=>by
       have h9:=bf (rpt s a) V;rw [co,decide_eq_true d1,Bool.true_and,show bN (by8 s a)=false from kd_0 hk] at h9;exact h9
      have q34:(rpt s a == 34)=false:=by rw [beq_eq_false_iff_ne];exact fun h=>kq_0 hk ((aQ s a 34 (by decide) d1).1 h)
      have q39:(rpt s a == 39)=false:=by rw [beq_eq_false_iff_ne];exact fun h=>kc_0 hk ((aQ s a 39 (by decide) d1).1 h)
      have q123:(rpt s a == 123)=false:=by rw [beq_eq_false_iff_ne];exact fun h=>kb_0 hk ((aQ s a 123 (by decide) d1).1 h)
      have HPr:Hid (∀V,Da 90 #[.string (s.extract a s.size),.string ⟨#[47,47]⟩] V fun e w'=>e=.returned (.bool false)/\w'=V):=fun V=>by
       have h9:=lT (s.extract a s.size) ⟨#[47,47]⟩ V;rw [gA s _ a (by omega),show pre s a ⟨#[47,47]⟩=false from kp_0 hk d1] at h9;exact h9
      have HTok:Hid (∀V,Rs w0 V g s a a f l->Da 92 #[.pointer (some ⟨g,0,none⟩)] V fun e w'=>e=.returned (.int .i64 100)/\Rs w0 w' g s a a f l):=fun V hV=>rX hK hV hs' d1 (kz_0 hk)
      have HE2:Hid (∀V,Rs w0 V g s a a f l->RP w0 V g s/\(scn s).2.1=100):=fun V hV=>HJ.out.none d1 HN.out.1 HN.out.2 hk hV
      clear hk hb0
      go_wp2_with (first|(go_at_call 83;refine (HBl.out _).mono ?_;rintro e w1 ⟨rfl,hb1⟩;have hr1:=Rq.below HR.out hb1;have z1:=(HC.out _ _ _ hr1).2.2)|(go_at_call 85;refine (HSt.out _ hr1).mono ?_;rintro e w2 ⟨rfl,hr2⟩;obtain ⟨y0,y1,y2⟩:=HC.out _ _ _ hr2)|(go_at_call 86;refine (HLt.out _ hr2).mono ?_;rintro e w3 ⟨rfl,hw⟩;replace hw:=hw.symm;subst hw)|(go_at_call 87;refine (HDg.out _).mono ?_;rintro e w4 ⟨rfl,hw⟩;replace hw:=hw.symm;subst hw))
      go_quiet ((go_at_call 90;exact Calls.quiet_of_same (HPr.out _)))
      go_wp2_with (first|(go_at_call 92;refine (HTok.out _ (Rq.below hr2 (bR _ _))).mono ?_;rintro e w5 ⟨rfl,hr5⟩))
      simp only [Exit.jump]
      go_ret
      rw [(HE2.out _ hr5).2];exact ⟨rfl,(HE2.out _ hr5).1⟩
     ·have HLt:Hid (∀V,Rs w0 V g s a a f l->Da 86 #[.int .i64 (rpt s a)] V fun e w'=>e=.returned (.bool true)/\w'=V):=fun V hV=>by
       have h9:=cg (rpt s a) V (hK.below hV.bel).1;rw [show lt' (rpt s a)=true by rw [cC s a d1];exact kl_1 hk] at h9;exact h9
      obtain ⟨E,hE⟩:∃E,(ah s a 1).2=E:=⟨_,rfl⟩
      have HTok:Hid (∀V,Rs w0 V g s a a f l->Da 88 #[.pointer (some ⟨g,0,none⟩)] V fun e w'=>e=.returned (.int .i64 (E:Nat))/\TP w0 w' g s 1 a f l):=fun V hV=>by
       rw [<-hE];exact jI hK hV hs' d1 hb0 hk hl9
      have HK0:Hid (ag s a=1/\(ah s a 1).2=E):=⟨hk,hE⟩;clear hk hb0 hE
      by_cases he:E=0
      ·subst he
       go_wp2_with (first|(go_at_call 83;refine (HBl.out _).mono ?_;rintro e w1 ⟨rfl,hb1⟩;have hr1:=Rq.below HR.out hb1;have z1:=(HC.out _ _ _ hr1).2.2)|(go_at_call 85;refine (HSt.out _ hr1).mono ?_;rintro e w2 ⟨rfl,hr2⟩;obtain ⟨y0,y1,y2⟩:=HC.out _ _ _ hr2)|(go_at_call 86;refine (HLt.out _ hr2).mono ?_;rintro e w3 ⟨rfl,hw⟩;replace hw:=hw.symm;subst hw)|(go_at_call 88;refine (HTok.out _ hr2).mono ?_;rintro e w5 ⟨rfl,hr5⟩))
       obtain ⟨hj,hlt⟩:=HJ.out.tok d1 HN.out.1 HN.out.2 HK0.out.1 (by decide) HK0.out.2 hr5
       go_step3
       refine ⟨rfl,⟨_,a,0,_,_,_,_,_,_,_,_,_,_,_,_,_,_,_,_,_,_,_,_,_,_,_,_,_,_,_,_,_,_,_,_,_,_,_,_,_,_,_,_,_,_,_,_,_,_,_,_,_,_,_,_,_,_,_,_,_,_,_,_,_,_,_,_,_,_,_,_,_,_,_,_,_,_,_,_,_,_,_,_,_,_,_,hj,rfl⟩,?_⟩;rw [HX.out,hj.rs.at];have:=hj.asz;omega
      ·have qe:((E:Int) == 0)=false:=by simp;omega
       have HEE:Hid (E≠0):=he;clear he
       go_wp2_with (first|(go_at_call 83;refine (HBl.out _).mono ?_;rintro e w1 ⟨rfl,hb1⟩;have hr1:=Rq.below HR.out hb1;have z1:=(HC.out _ _ _ hr1).2.2)|(go_at_call 85;refine (HSt.out _ hr1).mono ?_;rintro e w2 ⟨rfl,hr2⟩;obtain ⟨y0,y1,y2⟩:=HC.out _ _ _ hr2)|(go_at_call 86;refine (HLt.out _ hr2).mono ?_;rintro e w3 ⟨rfl,hw⟩;replace hw:=hw.symm;subst hw)|(go_at_call 88;refine (HTok.out _ hr2).mono ?_;rintro e w5 ⟨rfl,hr5⟩))
       obtain ⟨hj,he2⟩:=HJ.out.bad d1 HN.out.1 HN.out.2 HK0.out.1 (by decide) (by rw [HK0.out.2];exact HEE.out) hr5;simp only [Exit.jump]
       go_ret
       rw [he2,HK0.out.2];exact ⟨rfl,hj⟩
     ·have HLt:Hid (∀V,Rs w0 V g s a a f l->Da 86 #[.int .i64 (rpt s a)] V fun e w'=>e=.returned (.bool false)/\w'=V):=fun V hV=>by
       have h9:=cg (rpt s a) V (hK.below hV.bel).1;rw [show lt' (rpt s a)=false by rw [cC s a d1];exact kl_3 hk] at h9;exact h9
      have HDg:Hid (∀V,Da 87 #[.int .i32 (rpt s a)] V fun e w'=>e=.returned (.bool true)/\w'=V):=fun V=>by
       have h9:=bf (rpt s a) V;rw [co,decide_eq_true d1,Bool.true_and,show bN (by8 s a)=true from kd_3 hk] at h9;exact h9
      obtain ⟨E,hE⟩:∃E,(ah s a 3).2=E:=⟨_,rfl⟩
      have HTok:Hid (∀V,Rs w0 V g s a a f l->Da 88 #[.pointer (some ⟨g,0,none⟩)] V fun e w'=>e=.returned (.int .i64 (E:Nat))/\TP w0 w' g s 3 a f l):=fun V hV=>by
       rw [<-hE];exact yn hV hs' d1 hb0 hk hl9
      have HK0:Hid (ag s a=3/\(ah s a 3).2=E):=⟨hk,hE⟩;clear hk hb0 hE
      by_cases he:E=0
      ·subst he
       go_wp2_with (first|(go_at_call 83;refine (HBl.out _).mono ?_;rintro e w1 ⟨rfl,hb1⟩;have hr1:=Rq.below HR.out hb1;have z1:=(HC.out _ _ _ hr1).2.2)|(go_at_call 85;refine (HSt.out _ hr1).mono ?_;rintro e w2 ⟨rfl,hr2⟩;obtain ⟨y0,y1,y2⟩:=HC.out _ _ _ hr2)|(go_at_call 86;refine (HLt.out _ hr2).mono ?_;rintro e w3 ⟨rfl,hw⟩;replace hw:=hw.symm;subst hw)|(go_at_call 87;refine (HDg.out _).mono ?_;rintro e w4 ⟨rfl,hw⟩;replace hw:=hw.symm;subst hw)|(go_at_call 88;refine (HTok.out _ hr2).mono ?_;rintro e w5 ⟨rfl,hr5⟩))
       obtain ⟨hj,hlt⟩:=HJ.out.tok d1 HN.out.1 HN.out.2 HK0.out.1 (by decide) HK0.out.2 hr5
       go_step3
       refine ⟨rfl,⟨_,a,0,_,_,_,_,_,_,_,_,_,_,_,_,_,_,_,_,_,_,_,_,_,_,_,_,_,_,_,_,_,_,_,_,_,_,_,_,_,_,_,_,_,_,_,_,_,_,_,_,_,_,_,_,_,_,_,_,_,_,_,_,_,_,_,_,_,_,_,_,_,_,_,_,_,_,_,_,_,_,_,_,_,_,_,hj,rfl⟩,?_⟩;rw [HX.out,hj.rs.at];have:=hj.asz;omega
      ·have qe:((E:Int) == 0)=false:=by simp;omega
       have HEE:Hid (E≠0):=he;clear he
       go_wp2_with (first|(go_at_call 83;refine (HBl.out _).mono ?_;rintro e w1 ⟨rfl,hb1⟩;have hr1:=Rq.below HR.out hb1;have z1:=(HC.out _ _ _ hr1).2.2)|(go_at_call 85;refine (HSt.out _ hr1).mono ?_;rintro e w2 ⟨rfl,hr2⟩;obtain ⟨y0,y1,y2⟩:=HC.out _ _ _ hr2)|(go_at_call 86;refine (HLt.out _ hr2).mono ?_;rintro e w3 ⟨rfl,hw⟩;replace hw:=hw.symm;subst hw)|(go_at_call 87;refine (HDg.out _).mono ?_;rintro e w4 ⟨rfl,hw⟩;replace hw:=hw.symm;subst hw)|(go_at_call 88;refine (HTok.out _ hr2).mono ?_;rintro e w5 ⟨rfl,hr5⟩))
       obtain ⟨hj,he2⟩:=HJ.out.bad d1 HN.out.1 HN.out.2 HK0.out.1 (by decide) (by rw [HK0.out.2];exact HEE.out) hr5;simp only [Exit.jump]
       go_ret
       rw [he2,HK0.out.2];exact ⟨rfl,hj⟩
     ·have HLt:Hid (∀V,Rs w0 V g s a a f l->Da 86 #[.int .i64 (rpt s a)] V fun e w'=>e=.returned (.bool false)/\w'=V):=fun V hV=>by
       have h9:=cg (rpt s a) V (hK.below hV.bel).1;rw [show lt' (rpt s a)=false by rw [cC s a d1];exact kl_4 hk] at h9;exact h9
      have HDg:Hid (∀V,Da 87 #[.int .i32 (rpt s a)] V fun e w'=>e=.returned (.bool false)/\w'=V):=fun V=>by
       have h9:=bf (rpt s a) V;rw [co,decide_eq_true d1,Bool.true_and,show bN (by8 s a)=false from kd_4 hk] at h9;exact h9
      have q34:(rpt s a == 34)=true:=by rw [beq_iff_eq];exact (aQ s a 34 (by decide) d1).2 (Cq hk)
      obtain ⟨E,hE⟩:∃E,(ah s a 4).2=E:=⟨_,rfl⟩
      have HTok:Hid (∀V,Rs w0 V g s a a f l->Da 89 #[.pointer (some ⟨g,0,none⟩)] V fun e w'=>e=.returned (.int .i64 (E:Nat))/\TP w0 w' g s 4 a f l):=fun V hV=>by
       rw [<-hE];exact ua hV hs' d1 hb0 hk hl9
      have HK0:Hid (ag s a=4/\(ah s a 4).2=E):=⟨hk,hE⟩;clear hk hb0 hE
      by_cases he:E=0
      ·subst he
       go_wp2_with (first|(go_at_call 83;refine (HBl.out _).mono ?_;rintro e w1 ⟨rfl,hb1⟩;have hr1:=Rq.below HR.out hb1;have z1:=(HC.out _ _ _ hr1).2.2)|(go_at_call 85;refine (HSt.out _ hr1).mono ?_;rintro e w2 ⟨rfl,hr2⟩;obtain ⟨y0,y1,y2⟩:=HC.out _ _ _ hr2)|(go_at_call 86;refine (HLt.out _ hr2).mono ?_;rintro e w3 ⟨rfl,hw⟩;replace hw:=hw.symm;subst hw)|(go_at_call 87;refine (HDg.out _).mono ?_;rintro e w4 ⟨rfl,hw⟩;replace hw:=hw.symm;subst hw)|(go_at_call 89;refine (HTok.out _ hr2).mono ?_;rintro e w5 ⟨rfl,hr5⟩))
       obtain ⟨hj,hlt⟩:=HJ.out.tok d1 HN.out.1 HN.out.2 HK0.out.1 (by decide) HK0.out.2 hr5
       go_step3
       refine ⟨rfl,⟨_,a,0,_,_,_,_,_,_,_,_,_,_,_,_,_,_,_,_,_,_,_,_,_,_,_,_,_,_,_,_,_,_,_,_,_,_,_,_,_,_,_,_,_,_,_,_,_,_,_,_,_,_,_,_,_,_,_,_,_,_,_,_,_,_,_,_,_,_,_,_,_,_,_,_,_,_,_,_,_,_,_,_,_,_,_,hj,rfl⟩,?_⟩;rw [HX.out,hj.rs.at];have:=hj.asz;omega
      ·have qe:((E:Int) == 0)=false:=by simp;omega
       have HEE:Hid (E≠0):=he;clear he
       go_wp2_with (first|(go_at_call 83;refine (HBl.out _).mono ?_;rintro e w1 ⟨rfl,hb1⟩;have hr1:=Rq.below HR.out hb1;have z1:=(HC.out _ _ _ hr1).2.2)|(go_at_call 85;refine (HSt.out _ hr1).mono ?_;rintro e w2 ⟨rfl,hr2⟩;obtain ⟨y0,y1,y2⟩:=HC.out _ _ _ hr2)|(go_at_call 86;refine (HLt.out _ hr2).mono ?_;rintro e w3 ⟨rfl,hw⟩;replace hw:=hw.symm;subst hw)|(go_at_call 87;refine (HDg.out _).mono ?_;rintro e w4 ⟨rfl,hw⟩;replace hw:=hw.symm;subst hw)|(go_at_call 89;refine (HTok.out _ hr2).mono ?_;rintro e w5 ⟨rfl,hr5⟩))
       obtain ⟨hj,he2⟩:=HJ.out.bad d1 HN.out.1 HN.out.2 HK0.out.1 (by decide) (by rw [HK0.out.2];exact HEE.out) hr5;simp only [Exit.jump]
       go_ret
       rw [he2,HK0.out.2];exact ⟨rfl,hj⟩
     ·have HLt:Hid (∀V,Rs w0 V g s a a f l->Da 86 #[.int .i64 (rpt s a)] V fun e w'=>e=.returned (.bool false)/\w'=V):=fun V hV=>by
       have h9:=cg (rpt s a) V (hK.below hV.bel).1;rw [show lt' (rpt s a)=false by rw [cC s a d1];exact kl_5 hk] at h9;exact h9
      have HDg:Hid (∀V,Da 87 #[.int .i32 (rpt s a)] V fun e w'=>e=.returned (.bool false)/\w'=V):=fun V=>by
       have h9:=bf (rpt s a) V;rw [co,decide_eq_true d1,Bool.true_and,show bN (by8 s a)=false from kd_5 hk] at h9;exact h9
      have q34:(rpt s a == 34)=false:=by rw [beq_eq_false_iff_ne];exact fun h=>kq_5 hk ((aQ s a 34 (by decide) d1).1 h)
      have q39:(rpt s a == 39)=true:=by rw [beq_iff_eq];exact (aQ s a 39 (by decide) d1).2 (Cp hk)
      obtain ⟨E,hE⟩:∃E,(ah s a 5).2=E:=⟨_,rfl⟩
      have HTok:Hid (∀V,Rs w0 V g s a a f l->Da 89 #[.pointer (some ⟨g,0,none⟩)] V fun e w'=>e=.returned (.int .i64 (E:Nat))/\TP w0 w' g s 5 a f l):=fun V hV=>by
       rw [<-hE];exact wJ hV hs' d1 hb0 hk hl9
      have HK0:Hid (ag s a=5/\(ah s a 5).2=E):=⟨hk,hE⟩;clear hk hb0 hE
      by_cases he:E=0
      ·subst he
       go_wp2_with (first|(go_at_call 83;refine (HBl.out _).mono ?_;rintro e w1 ⟨rfl,hb1⟩;have hr1:=Rq.below HR.out hb1;have z1:=(HC.out _ _ _ hr1).2.2)|(go_at_call 85;refine (HSt.out _ hr1).mono ?_;rintro e w2 ⟨rfl,hr2⟩;obtain ⟨y0,y1,y2⟩:=HC.out _ _ _ hr2)|(go_at_call 86;refine (HLt.out _ hr2).mono ?_;rintro e w3 ⟨rfl,hw⟩;replace hw:=hw.symm;subst hw)|(go_at_call 87;refine (HDg.out _).mono ?_;rintro e w4 ⟨rfl,hw⟩;replace hw:=hw.symm;subst hw)|(go_at_call 89;refine (HTok.out _ hr2).mono ?_;rintro e w5 ⟨rfl,hr5⟩))
       obtain ⟨hj,hlt⟩:=HJ.out.tok d1 HN.out.1 HN.out.2 HK0.out.1 (by decide) HK0.out.2 hr5
       go_step3
       refine ⟨rfl,⟨_,a,0,_,_,_,_,_,_,_,_,_,_,_,_,_,_,_,_,_,_,_,_,_,_,_,_,_,_,_,_,_,_,_,_,_,_,_,_,_,_,_,_,_,_,_,_,_,_,_,_,_,_,_,_,_,_,_,_,_,_,_,_,_,_,_,_,_,_,_,_,_,_,_,_,_,_,_,_,_,_,_,_,_,_,_,hj,rfl⟩,?_⟩;rw [HX.out,hj.rs.at];have:=hj.asz;omega
      ·have qe:((E:Int) == 0)=false:=by simp;omega
       have HEE:Hid (E≠0):=he;clear he
       go_wp2_with (first|(go_at_call 83;refine (HBl.out _).mono ?_;rintro e w1 ⟨rfl,hb1⟩;have hr1:=Rq.below HR.out hb1;have z1:=(HC.out _ _ _ hr1).2.2)|(go_at_call 85;refine (HSt.out _ hr1).mono ?_;rintro e w2 ⟨rfl,hr2⟩;obtain ⟨y0,y1,y2⟩:=HC.out _ _ _ hr2)|(go_at_call 86;refine (HLt.out _ hr2).mono ?_;rintro e w3 ⟨rfl,hw⟩;replace hw:=hw.symm;subst hw)|(go_at_call 87;refine (HDg.out _).mono ?_;rintro e w4 ⟨rfl,hw⟩;replace hw:=hw.symm;subst hw)|(go_at_call 89;refine (HTok.out _ hr2).mono ?_;rintro e w5 ⟨rfl,hr5⟩))
       obtain ⟨hj,he2⟩:=HJ.out.bad d1 HN.out.1 HN.out.2 HK0.out.1 (by decide) (by rw [HK0.out.2];exact HEE.out) hr5;simp only [Exit.jump]
       go_ret
       rw [he2,HK0.out.2];exact ⟨rfl,hj⟩
     ·have HLt:Hid (∀V,Rs w0 V g s a a f l->Da 86 #[.int .i64 (rpt s a)] V fun e w'=>e=.returned (.bool false)/\w'=V):=fun V hV=>by
       have h9:=cg (rpt s a) V (hK.below hV.bel).1;rw [show lt' (rpt s a)=false by rw [cC s a d1];exact kl_6 hk] at h9;exact h9
      have HDg:Hid (∀V,Da 87 #[.int .i32 (rpt s a)] V fun e w'=>e=.returned (.bool false)/\w'=V):=fun V=>by
       have h9:=bf (rpt s a) V;rw [co,decide_eq_true d1,Bool.true_and,show bN (by8 s a)=false from kd_6 hk] at h9;exact h9
      have q34:(rpt s a == 34)=false:=by rw [beq_eq_false_iff_ne];exact fun h=>kq_6 hk ((aQ s a 34 (by decide) d1).1 h)
      have q39:(rpt s a == 39)=false:=by rw [beq_eq_false_iff_ne];exact fun h=>kc_6 hk ((aQ s a 39 (by decide) d1).1 h)
      have q123:(rpt s a == 123)=false:=by rw [beq_eq_false_iff_ne];exact fun h=>kb_6 hk ((aQ s a 123 (by decide) d1).1 h)
      have HPr:Hid (∀V,Da 90 #[.string (s.extract a s.size),.string ⟨#[47,47]⟩] V fun e w'=>e=.returned (.bool false)/\w'=V):=fun V=>by
       have h9:=lT (s.extract a s.size) ⟨#[47,47]⟩ V;rw [gA s _ a (by omega),show pre s a ⟨#[47,47]⟩=false from kp_6 hk d1] at h9;exact h9
      obtain ⟨E,hE⟩:∃E,(ah s a 6).2=E:=⟨_,rfl⟩
      have HTok:Hid (∀V,Rs w0 V g s a a f l->Da 92 #[.pointer (some ⟨g,0,none⟩)] V fun e w'=>e=.returned (.int .i64 (E:Nat))/\TP w0 w' g s 6 a f l):=fun V hV=>by
       rw [<-hE];exact uv hK hV hs' d1 hb0 hk hl9
      have HK0:Hid (ag s a=6/\(ah s a 6).2=E):=⟨hk,hE⟩;clear hk hb0 hE
      by_cases he:E=0
      ·subst he
       go_wp2_with (first|(go_at_call 83;refine (HBl.out _).mono ?_;rintro e w1 ⟨rfl,hb1⟩;have hr1:=Rq.below HR.out hb1;have z1:=(HC.out _ _ _ hr1).2.2)|(go_at_call 85;refine (HSt.out _ hr1).mono ?_;rintro e w2 ⟨rfl,hr2⟩;obtain ⟨y0,y1,y2⟩:=HC.out _ _ _ hr2)|(go_at_call 86;refine (HLt.out _ hr2).mono ?_;rintro e w3 ⟨rfl,hw⟩;replace hw:=hw.symm;subst hw)|(go_at_call 87;refine (HDg.out _).mono ?_;rintro e w4 ⟨rfl,hw⟩;replace hw:=hw.symm;subst hw))
       go_quiet ((go_at_call 90;exact Calls.quiet_of_same (HPr.out _)))
       go_wp2_with (first|(go_at_call 92;refine (HTok.out _ (Rq.below hr2 (bR _ _))).mono ?_;rintro e w5 ⟨rfl,hr5⟩))
       obtain ⟨hj,hlt⟩:=HJ.out.tok d1 HN.out.1 HN.out.2 HK0.out.1 (by decide) HK0.out.2 hr5
       go_step3
       refine ⟨rfl,⟨_,a,0,_,_,_,_,_,_,_,_,_,_,_,_,_,_,_,_,_,_,_,_,_,_,_,_,_,_,_,_,_,_,_,_,_,_,_,_,_,_,_,_,_,_,_,_,_,_,_,_,_,_,_,_,_,_,_,_,_,_,_,_,_,_,_,_,_,_,_,_,_,_,_,_,_,_,_,_,_,_,_,_,_,_,_,hj,rfl⟩,?_⟩;rw [HX.out,hj.rs.at];have:=hj.asz;omega
      ·have qe:((E:Int) == 0)=false:=by simp;omega
       have HEE:Hid (E≠0):=he;clear he
       go_wp2_with (first|(go_at_call 83;refine (HBl.out _).mono ?_;rintro e w1 ⟨rfl,hb1⟩;have hr1:=Rq.below HR.out hb1;have z1:=(HC.out _ _ _ hr1).2.2)|(go_at_call 85;refine (HSt.out _ hr1).mono ?_;rintro e w2 ⟨rfl,hr2⟩;obtain ⟨y0,y1,y2⟩:=HC.out _ _ _ hr2)|(go_at_call 86;refine (HLt.out _ hr2).mono ?_;rintro e w3 ⟨rfl,hw⟩;replace hw:=hw.symm;subst hw)|(go_at_call 87;refine (HDg.out _).mono ?_;rintro e w4 ⟨rfl,hw⟩;replace hw:=hw.symm;subst hw))
       go_quiet ((go_at_call 90;exact Calls.quiet_of_same (HPr.out _)))
       go_wp2_with (first|(go_at_call 92;refine (HTok.out _ (Rq.below hr2 (bR _ _))).mono ?_;rintro e w5 ⟨rfl,hr5⟩))
       obtain ⟨hj,he2⟩:=HJ.out.bad d1 HN.out.1 HN.out.2 HK0.out.1 (by decide) (by rw [HK0.out.2];exact HEE.out) hr5;simp only [Exit.jump]
       go_ret
       rw [he2,HK0.out.2];exact ⟨rfl,hj⟩
     ·have HLt:Hid (∀V,Rs w0 V g s a a f l->Da 86 #[.int .i64 (rpt s a)] V fun e w'=>e=.returned (.bool false)/\w'=V):=fun V hV=>by
       have h9:=cg (rpt s a) V (hK.below hV.bel).1;rw [show lt' (rpt s a)=false by rw [cC s a d1];exact kl_7 hk] at h9;exact h9
      have HDg:Hid (∀V,Da 87 #[.int .i32 (rpt s a)] V fun e w'=>e=.returned (.bool false)/\w'=V):=fun V=>by
       have h9:=bf (rpt s a) V;rw [co,decide_eq_true d1,Bool.true_and,show bN (by8 s a)=false from kd_7 hk] at h9;exact h9
      have q34:(rpt s a == 34)=false:=by rw [beq_eq_false_iff_ne];exact fun h=>kq_7 hk ((aQ s a 34 (by decide) d1).1 h)
      have q39:(rpt s a == 39)=false:=by rw [beq_eq_false_iff_ne];exact fun h=>kc_7 hk ((aQ s a 39 (by decide) d1).1 h)
      have q123:(rpt s a == 123)=false:=by rw [beq_eq_false_iff_ne];exact fun h=>kb_7 hk ((aQ s a 123 (by decide) d1).1 h)
      have HPr:Hid (∀V,Da 90 #[.string (s.extract a s.size),.string ⟨#[47,47]⟩] V fun e w'=>e=.returned (.bool true)/\w'=V):=fun V=>by
       have h9:=lT (s.extract a s.size) ⟨#[47,47]⟩ V;rw [gA s _ a (by omega),show pre s a ⟨#[47,47]⟩=true from kp_7 hk d1] at h9;exact h9
      obtain ⟨E,hE⟩:∃E,(ah s a 7).2=E:=⟨_,rfl⟩
      have HTok:Hid (∀V,Rs w0 V g s a a f l->Da 91 #[.pointer (some ⟨g,0,none⟩)] V fun e w'=>e=.returned (.int .i64 (E:Nat))/\TP w0 w' g s 7 a f l):=fun V hV=>by
       rw [<-hE];exact vE hV hs' d1 hb0 hk hl9
      have HK0:Hid (ag s a=7/\(ah s a 7).2=E):=⟨hk,hE⟩;clear hk hb0 hE
      by_cases he:E=0
      ·subst he
       go_wp2_with (first|(go_at_call 83;refine (HBl.out _).mono ?_;rintro e w1 ⟨rfl,hb1⟩;have hr1:=Rq.below HR.out hb1;have z1:=(HC.out _ _ _ hr1).2.2)|(go_at_call 85;refine (HSt.out _ hr1).mono ?_;rintro e w2 ⟨rfl,hr2⟩;obtain ⟨y0,y1,y2⟩:=HC.out _ _ _ hr2)|(go_at_call 86;refine (HLt.out _ hr2).mono ?_;rintro e w3 ⟨rfl,hw⟩;replace hw:=hw.symm;subst hw)|(go_at_call 87;refine (HDg.out _).mono ?_;rintro e w4 ⟨rfl,hw⟩;replace hw:=hw.symm;subst hw))
       go_quiet ((go_at_call 90;exact Calls.quiet_of_same (HPr.out _)))
       go_wp2_with (first|(go_at_call 91;refine (HTok.out _ (Rq.below hr2 (bR _ _))).mono ?_;rintro e w5 ⟨rfl,hr5⟩))
       obtain ⟨hj,hlt⟩:=HJ.out.tok d1 HN.out.1 HN.out.2 HK0.out.1 (by decide) HK0.out.2 hr5
       go_step3
       refine ⟨rfl,⟨_,a,0,_,_,_,_,_,_,_,_,_,_,_,_,_,_,_,_,_,_,_,_,_,_,_,_,_,_,_,_,_,_,_,_,_,_,_,_,_,_,_,_,_,_,_,_,_,_,_,_,_,_,_,_,_,_,_,_,_,_,_,_,_,_,_,_,_,_,_,_,_,_,_,_,_,_,_,_,_,_,_,_,_,_,_,hj,rfl⟩,?_⟩;rw [HX.out,hj.rs.at];have:=hj.asz;omega
      ·have qe:((E:Int) == 0)=false:=by simp;omega
       have HEE:Hid (E≠0):=he;clear he
       go_wp2_with (first|(go_at_call 83;refine (HBl.out _).mono ?_;rintro e w1 ⟨rfl,hb1⟩;have hr1:=Rq.below HR.out hb1;have z1:=(HC.out _ _ _ hr1).2.2)|(go_at_call 85;refine (HSt.out _ hr1).mono ?_;rintro e w2 ⟨rfl,hr2⟩;obtain ⟨y0,y1,y2⟩:=HC.out _ _ _ hr2)|(go_at_call 86;refine (HLt.out _ hr2).mono ?_;rintro e w3 ⟨rfl,hw⟩;replace hw:=hw.symm;subst hw)|(go_at_call 87;refine (HDg.out _).mono ?_;rintro e w4 ⟨rfl,hw⟩;replace hw:=hw.symm;subst hw))
       go_quiet ((go_at_call 90;exact Calls.quiet_of_same (HPr.out _)))
       go_wp2_with (first|(go_at_call 91;refine (HTok.out _ (Rq.below hr2 (bR _ _))).mono ?_;rintro e w5 ⟨rfl,hr5⟩))
       obtain ⟨hj,he2⟩:=HJ.out.bad d1 HN.out.1 HN.out.2 HK0.out.1 (by decide) (by rw [HK0.out.2];exact HEE.out) hr5;simp only [Exit.jump]
       go_ret
       rw [he2,HK0.out.2];exact ⟨rfl,hj⟩
     ·have HLt:Hid (∀V,Rs w0 V g s a a f l->Da 86 #[.int .i64 (rpt s a)] V fun e w'=>e=.returned (.bool false)/\w'=V):=fun V hV=>by
       have h9:=cg (rpt s a) V (hK.below hV.bel).1;rw [show lt' (rpt s a)=false by rw [cC s a d1];exact kl_8 hk] at h9;exact h9
      have HDg:Hid (∀V,Da 87 #[.int .i32 (rpt s a)] V fun e w'=>e=.returned (.bool false)/\w'=V):=fun V=>by
       have h9:=bf (rpt s a) V;rw [co,decide_eq_true d1,Bool.true_and,show bN (by8 s a)=false from kd_8 hk] at h9;exact h9
      have q34:(rpt s a == 34)=false:=by rw [beq_eq_false_iff_ne];exact fun h=>kq_8 hk ((aQ s a 34 (by decide) d1).1 h)
      have q39:(rpt s a == 39)=false:=by rw [beq_eq_false_iff_ne];exact fun h=>kc_8 hk ((aQ s a 39 (by decide) d1).1 h)
      have q123:(rpt s a == 123)=true:=by rw [beq_iff_eq];exact (aQ s a 123 (by decide) d1).2 (Co hk)
      obtain ⟨E,hE⟩:∃E,(ah s a 8).2=E:=⟨_,rfl⟩
      have HTok:Hid (∀V,Rs w0 V g s a a f l->Da 91 #[.pointer (some ⟨g,0,none⟩)] V fun e w'=>e=.returned (.int .i64 (E:Nat))/\TP w0 w' g s 8 a f l):=fun V hV=>by
       rw [<-hE];exact tK hV hs' d1 hb0 hk hl9
      have HK0:Hid (ag s a=8/\(ah s a 8).2=E):=⟨hk,hE⟩;clear hk hb0 hE
      by_cases he:E=0
      ·subst he
       go_wp2_with (first|(go_at_call 83;refine (HBl.out _).mono ?_;rintro e w1 ⟨rfl,hb1⟩;have hr1:=Rq.below HR.out hb1;have z1:=(HC.out _ _ _ hr1).2.2)|(go_at_call 85;refine (HSt.out _ hr1).mono ?_;rintro e w2 ⟨rfl,hr2⟩;obtain ⟨y0,y1,y2⟩:=HC.out _ _ _ hr2)|(go_at_call 86;refine (HLt.out _ hr2).mono ?_;rintro e w3 ⟨rfl,hw⟩;replace hw:=hw.symm;subst hw)|(go_at_call 87;refine (HDg.out _).mono ?_;rintro e w4 ⟨rfl,hw⟩;replace hw:=hw.symm;subst hw))
       go_quiet (fail)
       go_wp2_with (first|(go_at_call 91;refine (HTok.out _ (Rq.below hr2 (bR _ _))).mono ?_;rintro e w5 ⟨rfl,hr5⟩))
       obtain ⟨hj,hlt⟩:=HJ.out.tok d1 HN.out.1 HN.out.2 HK0.out.1 (by decide) HK0.out.2 hr5
       go_step3
       refine ⟨rfl,⟨_,a,0,_,_,_,_,_,_,_,_,_,_,_,_,_,_,_,_,_,_,_,_,_,_,_,_,_,_,_,_,_,_,_,_,_,_,_,_,_,_,_,_,_,_,_,_,_,_,_,_,_,_,_,_,_,_,_,_,_,_,_,_,_,_,_,_,_,_,_,_,_,_,_,_,_,_,_,_,_,_,_,_,_,_,_,hj,rfl⟩,?_⟩;rw [HX.out,hj.rs.at];have:=hj.asz;omega
      ·have qe:((E:Int) == 0)=false:=by simp;omega
       have HEE:Hid (E≠0):=he;clear he
       go_wp2_with (first|(go_at_call 83;refine (HBl.out _).mono ?_;rintro e w1 ⟨rfl,hb1⟩;have hr1:=Rq.below HR.out hb1;have z1:=(HC.out _ _ _ hr1).2.2)|(go_at_call 85;refine (HSt.out _ hr1).mono ?_;rintro e w2 ⟨rfl,hr2⟩;obtain ⟨y0,y1,y2⟩:=HC.out _ _ _ hr2)|(go_at_call 86;refine (HLt.out _ hr2).mono ?_;rintro e w3 ⟨rfl,hw⟩;replace hw:=hw.symm;subst hw)|(go_at_call 87;refine (HDg.out _).mono ?_;rintro e w4 ⟨rfl,hw⟩;replace hw:=hw.symm;subst hw))
       go_quiet (fail)
       go_wp2_with (first|(go_at_call 91;refine (HTok.out _ (Rq.below hr2 (bR _ _))).mono ?_;rintro e w5 ⟨rfl,hr5⟩))
       obtain ⟨hj,he2⟩:=HJ.out.bad d1 HN.out.1 HN.out.2 HK0.out.1 (by decide) (by rw [HK0.out.2];exact HEE.out) hr5;simp only [Exit.jump]
       go_ret
       rw [he2,HK0.out.2];exact ⟨rfl,hj⟩
end Go.Proofs.YtpdlohfdjiaegaaGreatDoor.Lx
