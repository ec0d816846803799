import Derived.Test.YtnljjdhodelhdaaGreatDoorM06
set_option linter.unusedVariables false
set_option linter.unusedSimpArgs false
set_option maxHeartbeats 8000000
namespace Go.Proofs.YtnljjdhodelhdaaGreatDoor.Lx
open Go.RowKit
variable {s:ByteArray}{a g b f:Nat}{w0 W W':World}{l:List Tv}
theorem CH (s:ByteArray) (a:Nat):ak s a=0\/ak s a=1\/ak s a=3\/ak s a=4\/ak s a=5\/ak s a=6\/ak s a=7\/ak s a=8:=by
 unfold ak
 repeat' split
 all_goals simp
theorem bA {k:Nat}(h:ak s a=k):(k≠1->(gd s a && fG (dp s a))=false)/\(k≠1->k≠3->cM (ay s a)=false)/\(k≠1->k≠3->k≠4->ay s a≠34)/\(k≠1->k≠3->k≠4->k≠5->ay s a≠39) /\
  (k≠1->k≠3->k≠4->k≠5->k≠7->¬(ay s a=47/\a+1<s.size/\ay s (a+1)=47))/\(k≠1->k≠3->k≠4->k≠5->k≠7->k≠8->ay s a≠123)/\(k≠1->k≠3->k≠4->k≠5->k≠7->k≠8->k≠6->(sg s a).size=0):=by
 unfold ak at h
 by_cases c1:(gd s a && fG (dp s a))=true
 ·grind
 ·rw [Eq c1] at h;have e1:(gd s a && fG (dp s a))=false:=by simpa using c1
  by_cases c2:cM (ay s a)=true
  ·grind
  ·grind
theorem su :pre s a ⟨#[47,47]⟩=decide (ay s a=47/\a+1<s.size/\ay s (a+1)=47):=by
 unfold pre;rw [SW];have hz:(⟨#[47,47]⟩:ByteArray).size=2:=rfl;rw [hz];constructor
 ·rintro ⟨h1,h2⟩;have e0:=aS s a (a+2) 0 (by omega);have e1:=aS s a (a+2) 1 (by omega);rw [h2] at e0 e1;exact ⟨by rw [show a=a+0 by omega,<-e0];rfl,by omega,by rw [<-e1];rfl⟩
 ·rintro ⟨h1,h2,h3⟩;refine ⟨by omega,fh _ _ (by rw [az s _ _ (by omega)];show a+2-a=2;omega) (fun j hj=>?_)⟩;rw [az s _ _ (by omega)] at hj;rw [aS s a _ j (by omega)]
  rcases (show j=0\/j=1 by omega) with rfl|rfl
  ·rw [So,h1];rfl
  ·rw [h3];rfl
theorem PZ (hk:ak s a=7) (d1:a<s.size):pre s a ⟨#[47,47]⟩=true:=by rw [su];exact Q9 (Nz hk)
theorem P0 (hk:ak s a=6) (d1:a<s.size):pre s a ⟨#[47,47]⟩=false:=by rw [su];exact Rf ((bA hk).2.2.2.2.1 (by decide) (by decide) (by decide) (by decide) (by decide))
theorem P7 (hk:ak s a=0) (d1:a<s.size):pre s a ⟨#[47,47]⟩=false:=by rw [su];exact Rf ((bA hk).2.2.2.2.1 (by decide) (by decide) (by decide) (by decide) (by decide))
theorem Qf (hk:ak s a=1):(gd s a && fG (dp s a))=true:=O8 hk
theorem Qm (hk:ak s a=3):cM (ay s a)=true:=O7 hk
theorem Qe (hk:ak s a=3):(gd s a && fG (dp s a))=false:=(bA hk).1 (by decide)
theorem Qd (hk:ak s a=4):(gd s a && fG (dp s a))=false:=(bA hk).1 (by decide)
theorem Qc (hk:ak s a=5):(gd s a && fG (dp s a))=false:=(bA hk).1 (by decide)
theorem Qa (hk:ak s a=7):(gd s a && fG (dp s a))=false:=(bA hk).1 (by decide)
theorem P9 (hk:ak s a=8):(gd s a && fG (dp s a))=false:=(bA hk).1 (by decide)
theorem Qb (hk:ak s a=6):(gd s a && fG (dp s a))=false:=(bA hk).1 (by decide)
theorem Qg (hk:ak s a=0):(gd s a && fG (dp s a))=false:=(bA hk).1 (by decide)
theorem Ql (hk:ak s a=4):cM (ay s a)=false:=(bA hk).2.1 (by decide) (by decide)
theorem Qk (hk:ak s a=5):cM (ay s a)=false:=(bA hk).2.1 (by decide) (by decide)
theorem Qi (hk:ak s a=7):cM (ay s a)=false:=(bA hk).2.1 (by decide) (by decide)
theorem Qh (hk:ak s a=8):cM (ay s a)=false:=(bA hk).2.1 (by decide) (by decide)
theorem Qj (hk:ak s a=6):cM (ay s a)=false:=(bA hk).2.1 (by decide) (by decide)
theorem Qn (hk:ak s a=0):cM (ay s a)=false:=(bA hk).2.1 (by decide) (by decide)
theorem PX (hk:ak s a=5):ay s a≠34:=(bA hk).2.2.1 (by decide) (by decide) (by decide)
theorem PV (hk:ak s a=7):ay s a≠34:=(bA hk).2.2.1 (by decide) (by decide) (by decide)
theorem PU (hk:ak s a=8):ay s a≠34:=(bA hk).2.2.1 (by decide) (by decide) (by decide)
theorem PW (hk:ak s a=6):ay s a≠34:=(bA hk).2.2.1 (by decide) (by decide) (by decide)
theorem PY (hk:ak s a=0):ay s a≠34:=(bA hk).2.2.1 (by decide) (by decide) (by decide)
theorem Qp (hk:ak s a=7):ay s a≠39:=(bA hk).2.2.2.1 (by decide) (by decide) (by decide) (by decide)
theorem Qo (hk:ak s a=8):ay s a≠39:=(bA hk).2.2.2.1 (by decide) (by decide) (by decide) (by decide)
theorem Qq (hk:ak s a=6):ay s a≠39:=(bA hk).2.2.2.1 (by decide) (by decide) (by decide) (by decide)
theorem Qr (hk:ak s a=0):ay s a≠39:=(bA hk).2.2.2.1 (by decide) (by decide) (by decide) (by decide)
theorem Qs (hk:ak s a=7):ay s a≠123:=by rw [(Nz hk).1];decide
theorem Qt (hk:ak s a=6):ay s a≠123:=(bA hk).2.2.2.2.2.1 (by decide) (by decide) (by decide) (by decide) (by decide) (by decide)
theorem Qu (hk:ak s a=0):ay s a≠123:=(bA hk).2.2.2.2.2.1 (by decide) (by decide) (by decide) (by decide) (by decide) (by decide)
theorem PT (hk:ak s a=0):(sg s a).size=0:=(bA hk).2.2.2.2.2.2 (by decide) (by decide) (by decide) (by decide) (by decide) (by decide) (by decide)
structure JR (w0 W:World) (g:Nat) (s:ByteArray) (a b f:Nat) (l:List Tv):Prop where
 asz:a<=s.size
 ba:b<=a
 bda:bd s a
 bdb:bd s b
 rs:Rs w0 W g s a b f l
 fa:f<=a
 la:l.length<=a
 toks:l++(gT s a f).1.map (tv s)=(fy s).1.map (tv s)
 err:(gT s a f).2=(fy s).2
def RP (w0 w':World) (g:Nat) (s:ByteArray):Prop:=∃a' b' f',Rs w0 w' g s a' b' f' ((fy s).1.map (tv s))/\bd s a'/\bd s b'/\b'<=a'/\((fy s).2.1=102->a'=(fy s).2.2)/\((fy s).2.1≠0->(fy s).2.1≠102->b'=(fy s).2.2)
theorem JR.done (h:JR w0 W g s a b f l) (ha:s.size<=a):RP w0 W g s/\(fy s).2.1=0:=by
 have e:=eG s a f ha;have h1:=h.toks;have h2:=h.err;rw [e] at h1 h2;rw [UT,RI] at h1;refine ⟨⟨a,b,f,by rw [<-h1];exact h.rs,h.bda,h.bdb,h.ba,?_,?_⟩,by rw [<-h2]⟩
 ·rw [<-h2];intro h;cases h
 ·rw [<-h2];intro h;exact absurd rfl h
theorem JR.feed (h:JR w0 W g s a b f l) (ha:a<s.size) (h10:ay s a=10) (hr:Rs w0 W' g s (a+fj s a) b (if bj s a=10 then f+1 else f) l):JR w0 W' g s (a+1) b (f+1) l:=by
 have e:=cq s a f ha;rw [IO h10] at e;have e1:bj s a=10:=(bL s a 10 (by decide) ha).2 h10;rw [IO e1,cg ha,(bv s a (by omega)).1] at hr;have h1:=h.ba;have h2:=h.fa;have h3:=h.la;exact ⟨ha,by omega,(jZ s a ha (by omega)).2,h.bdb,hr,by omega,by omega,by rw [<-e];exact h.toks,by rw [<-e];exact h.err⟩
theorem JR.blank (h:JR w0 W g s a b f l) (ha:a<s.size) (h10:ay s a≠10) (hbl:cV (ay s a)=true) (hr:Rs w0 W' g s (a+fj s a) b (if bj s a=10 then f+1 else f) l):JR w0 W' g s (a+1) b f l:=by
 have e:=cq s a f ha;rw [Eq h10,IO hbl] at e;have h8:=Ny hbl;have hn10:¬bj s a=10:=fun h=>h10 ((bL s a 10 (by decide) ha).1 h)
 rw [Eq hn10,cg ha,(bv s a h8).1] at hr;have h1:=h.ba;have h2:=h.fa;have h3:=h.la;exact ⟨ha,by omega,(jZ s a ha h8).2,h.bdb,hr,by omega,by omega,by rw [<-e];exact h.toks,by rw [<-e];exact h.err⟩
theorem JR.tok (h:JR w0 W g s a b f l) (ha:a<s.size) (h10:ay s a≠10) (hbl:cV (ay s a)=false) {k:Nat}(hk:ak s a=k) (h0:k≠0) (hE:(ap s a k).2=0) (hT:TP w0 W' g s k a f l) :
  JR w0 W' g s (ap s a k).1 a 0 (l++[tv s (cQ s k a (ap s a k).1 f)])/\a<(ap s a k).1:=by
 have e:=cq s a f ha;have hp:=eC s a k (ap s a k).1 ha hk h0 (UW rfl hE);have hbp:bd s (ap s a k).1:=Na h.bda ha hk h0 rfl;unfold TP at hT;rw [IO hE] at hT;rw [Eq h10,Eq (by rw [hbl];decide),hk,Eq h0,Eq (by rw [hE];decide)] at e;have h3:=h.la;refine ⟨⟨hp.2,R4 hp.1,hbp,h.bda,hT,QU _,by rw [Or];simp;omega,?_,?_⟩,hp.1⟩
 ·have:=h.toks;rw [e] at this;rw [<-this];simp
 ·have:=h.err;rw [e] at this;exact this
theorem JR.bad (h:JR w0 W g s a b f l) (ha:a<s.size) (h10:ay s a≠10) (hbl:cV (ay s a)=false) {k:Nat}(hk:ak s a=k) (h0:k≠0) (hE:(ap s a k).2≠0) (hT:TP w0 W' g s k a f l) :
  RP w0 W' g s/\(fy s).2.1=(ap s a k).2:=by
 have e:=cq s a f ha;unfold TP at hT;rw [Eq hE] at hT;rw [Eq h10,Eq (by rw [hbl];decide),hk,Eq h0,IO hE] at e;have h1:=h.toks;have h2:=h.err;rw [e] at h1 h2;rw [UT,RI] at h1;obtain ⟨a',t1,t2,t3,t4⟩:=hT;have e1:(fy s).2.1=(ap s a k).2:=by rw [<-h2]
 have e2:(fy s).2.2=(ap s a k).1:=by rw [<-h2]
 refine ⟨⟨a',a,f,by rw [<-h1];exact t3,t1,h.bda,t2,fun h=>?_,fun _ h2=>?_⟩,e1⟩
 ·rw [e2];exact t4 (by rw [<-e1];exact h)
 ·rw [e2]
  rcases J8 (p:=(ap s a k).1) (e:=(ap s a k).2) ha rfl hE with ⟨h5,_⟩|⟨h5,_⟩
  ·exact h5.symm
  ·exact absurd (by rw [e1];exact h5) h2
theorem JR.none (h:JR w0 W g s a b f l) (ha:a<s.size) (h10:ay s a≠10) (hbl:cV (ay s a)=false) (hk:ak s a=0) (hr:Rs w0 W' g s a a f l) :
  RP w0 W' g s/\(fy s).2.1=100:=by
 have e:=cq s a f ha;rw [Eq h10,Eq (by rw [hbl];decide),IO hk] at e;have h1:=h.toks;have h2:=h.err;rw [e] at h1 h2;rw [UT,RI] at h1;refine ⟨⟨a,a,f,by rw [<-h1];exact hr,h.bda,h.bda,gt _,?_,?_⟩,by rw [<-h2]⟩
 ·rw [<-h2];intro h;cases h
 ·rw [<-h2];intro _ _;rfl
theorem ql {P:Program}{a:Act}{w:World}{Q:Exit->Act->World->Prop}{r rest:Code}(l:Nat) (J:Act->World->Prop) (μ:Act->World->Nat) (hf:findLabel (r.seq ((Code.label l).seq rest)) l=some (Code.skip.seq rest))
  (first:r.wp P (Exit.then (fun a w=>J a w) (fun _ _ _=>False)) a w)
  (pass:∀a w,J a w->rest.wp P (Exit.jump l (fun a' w'=>J a' w'/\μ a' w' < μ a w) Q) a w):(Code.scope (r.seq ((Code.label l).seq rest))).wp P Q a w:=by
 refine TD l J μ hf ?_ (fun a w h=>wp_seq (wp_skip (pass a w h)));refine wp_seq (wp_mono first ?_);intro e a' w' h;cases e with
 |normal=>
  refine wp_seq (wp_label ?_);refine wp_mono (pass a' w' h) ?_;intro e2 a2 w2 h2;cases e2 with
  |goto l'=>exact ⟨h2.1,h2.2.1⟩
  |normal=>exact h2
  |exit id=>exact h2
  |ret=>exact h2
  |panic ch=>exact h2
  |outgrown=>exact h2
 |goto l'=>exact h.elim
 |exit id=>exact h.elim
 |ret=>exact h.elim
 |panic ch=>exact h.elim
 |outgrown=>exact h.elim
set_option maxRecDepth 100000 in
theorem oQ (hK:qk w0) (h:Rs w0 W g s 0 0 0 []) (hs:s.size<=2147483647) :
  Ra 15 #[.pointer (some ⟨g,0,none⟩)] W fun e w'=>e=.returned (.int .i64 ((fy s).2.1:Nat))/\RP w0 w' g s:=by
 have HJ0:Hid (JR w0 W g s 0 0 0 []):=⟨QU _,gt _,tR s,tR s,h,gt _,gt _,rfl,rfl⟩
 have HC:Hid (∀V a b,∀{f:Nat} {l:List Tv},Rs w0 V g s a b f l->V.cell? ⟨g,0,none⟩=some (.string s)/\V.cell? ⟨g,1,none⟩=some (.int .i64 a)/\V.cell? ⟨g,2,none⟩=some (.int .i32 (bj s a))):=fun V a b f l hr=>by
  obtain ⟨h1',h2',v,h3,h4⟩:=hr;exact ⟨(Rq.cells h3).1,(Rq.cells h3).2.1,(Rq.cells h3).2.2.1⟩
 clear h
 go_enter Tryz.func15,Tryz.ntmps15
 go_wp2_with fail
 refine ql 0 (fun a' w'=>∃(a b f:Nat) (l:List Tv) (u1 u2 u3 u4 u5 u6 u7 u8 u9 u10 u11 u12 u13 u14 u15 u16 u17 u18 u19 u20 u21 u22 u23 u24 u25 u26 u27 u28 u29 u30 u31 u32 u33 u34 u35 u36 u37 u38 u39 u40 u41 u42 u43 u44 u45 u46 u47 u48 u49 u50 u51 u52 u53 u54 u55 u56 u57 u58 u59 u60 u61 u62 u63 u64 u65 u66 u67 u68 u69 u70 u71 u72 u73 u74 u75 u76 u77 u78 u79 u80 u81 u82:Value),Hid (JR w0 w' g s a b f l)/\a'={ tmps:=#[.pointer (some ⟨g,0,none⟩),u1,u2,u3,u4,u5,u6,u7,u8,u9,u10,u11,u12,u13,u14,u15,u16,u17,u18,u19,u20,u21,u22,u23,u24,u25,u26,u27,u28,u29,u30,u31,u32,u33,u34,u35,u36,u37,u38,u39,u40,u41,u42,u43,u44,u45,u46,u47,u48,u49,u50,u51,u52,u53,u54,u55,u56,u57,u58,u59,u60,u61,u62,u63,u64,u65,u66,u67,u68,u69,u70,u71,u72,u73,u74,u75,u76,u77,u78,u79,u80,u81,u82],defers:=[] }) (fun _ w'=>s.size-gh w' g 1) rfl ?_ ?_
 ·go_wp2_with fail
  exact ⟨0,0,0,[],_,_,_,_,_,_,_,_,_,_,_,_,_,_,_,_,_,_,_,_,_,_,_,_,_,_,_,_,_,_,_,_,_,_,_,_,_,_,_,_,_,_,_,_,_,_,_,_,_,_,_,_,_,_,_,_,_,_,_,_,_,_,_,_,_,_,_,_,_,_,_,_,_,_,_,_,_,_,_,_,_,_,HJ0,rfl⟩
 ·rintro a' w' ⟨a,b,f,l,u1,u2,u3,u4,u5,u6,u7,u8,u9,u10,u11,u12,u13,u14,u15,u16,u17,u18,u19,u20,u21,u22,u23,u24,u25,u26,u27,u28,u29,u30,u31,u32,u33,u34,u35,u36,u37,u38,u39,u40,u41,u42,u43,u44,u45,u46,u47,u48,u49,u50,u51,u52,u53,u54,u55,u56,u57,u58,u59,u60,u61,u62,u63,u64,u65,u66,u67,u68,u69,u70,u71,u72,u73,u74,u75,u76,u77,u78,u79,u80,u81,u82,HJ,rfl⟩;have HX:Hid (gh w' g 1=a):=HJ.out.rs.at;have HR:Hid (Rs w0 w' g s a b f l):=HJ.out.rs;have z0:=(HC.out _ _ _ HR.out).2.2;have hla:=HJ.out.la;have hfa:=HJ.out.fa;have hasz:=HJ.out.asz
  by_cases hd:s.size<=a
  ·rw [(dv s a).2 hd] at z0;have HE:=HJ.out.done hd;have HE2:Hid (RP w0 w' g s/\(fy s).2.1=0):=HE;clear HE hd
   go_wp2_with fail
   simp only [Exit.jump]
   go_ret
   rw [HE2.out.2];exact ⟨rfl,HE2.out.1⟩
  ·have d1:a<s.size:=by omega
   have e0:(bj s a == -1)=false:=by rw [Rr];exact fun h=>hd ((dv s a).1 h)
   have rg:=yW s a;have rg0:0<=bj s a:=by rw [gF d1];omega
   have hps:=uX HR.out (by omega) hasz (by omega);have HPs:Hid (∀V,Rs w0 V g s a b f l->Ra 34 #[.pointer (some ⟨g,0,none⟩)] V fun e w'=>e=.returned (.tuple #[])/\Rs w0 w' g s (a+fj s a) b (if bj s a=10 then f+1 else f) l):=fun V hV=>uX hV (by omega) hasz (by omega)
   clear hps
   by_cases h10:ay s a=10
   ·have q10:bj s a=10:=(bL s a 10 (by decide) d1).2 h10;have HJ2:Hid (∀V,Rs w0 V g s (a+fj s a) b (if bj s a=10 then f+1 else f) l->JR w0 V g s (a+1) b (f+1) l):=fun V hV=>HJ.out.feed d1 h10 hV
    rw [q10] at z0;clear h10 hd e0
    go_wp2_with (first|(go_at_call 34;refine (HPs.out _ HR.out).mono ?_;rintro e w1 ⟨rfl,hr1⟩;have hj:=HJ2.out _ hr1))
    go_step3
    refine ⟨rfl,⟨a+1,b,f+1,l,_,_,_,_,_,_,_,_,_,_,_,_,_,_,_,_,_,_,_,_,_,_,_,_,_,_,_,_,_,_,_,_,_,_,_,_,_,_,_,_,_,_,_,_,_,_,_,_,_,_,_,_,_,_,_,_,_,_,_,_,_,_,_,_,_,_,_,_,_,_,_,_,_,_,_,_,_,_,_,_,_,_,hj,rfl⟩,?_⟩;rw [HX.out,hj.rs.at];omega
   ·have q10:(bj s a == 10)=false:=by rw [Rr];exact fun h=>h10 ((bL s a 10 (by decide) d1).1 h)
    have hbp:=O2 s a d1
    by_cases hbl:cV (ay s a)=true
    ·have HBl:Hid (∀V,Ra 33 #[.int .i32 (bj s a)] V fun e w'=>e=.returned (.bool true)/\Rc V w'):=fun V=>by
      rw [<-hbl,<-hbp];exact mD _ _ rg0
     have HJ2:Hid (∀V,Rs w0 V g s (a+fj s a) b (if bj s a=10 then f+1 else f) l->JR w0 V g s (a+1) b f l):=fun V hV=>HJ.out.blank d1 h10 hbl hV
     clear h10 hd hbl hbp
     go_wp2_with (first|(go_at_call 33;refine (HBl.out _).mono ?_;rintro e w1 ⟨rfl,hb1⟩;have hr1:=Rq.below HR.out hb1;have z1:=(HC.out _ _ _ hr1).2.2)|(go_at_call 34;refine (HPs.out _ hr1).mono ?_;rintro e w2 ⟨rfl,hr2⟩;have hj:=HJ2.out _ hr2))
     go_step3
     refine ⟨rfl,⟨a+1,b,f,l,_,_,_,_,_,_,_,_,_,_,_,_,_,_,_,_,_,_,_,_,_,_,_,_,_,_,_,_,_,_,_,_,_,_,_,_,_,_,_,_,_,_,_,_,_,_,_,_,_,_,_,_,_,_,_,_,_,_,_,_,_,_,_,_,_,_,_,_,_,_,_,_,_,_,_,_,_,_,_,_,_,_,hj,rfl⟩,?_⟩;rw [HX.out,hj.rs.at];omega
    ·have hbl1:cV (ay s a)=false:=by simpa using hbl
     have HBl:Hid (∀V,Ra 33 #[.int .i32 (bj s a)] V fun e w'=>e=.returned (.bool false)/\Rc V w'):=fun V=>by
      rw [<-hbl1,<-hbp];exact mD _ _ rg0
     have hb0:=HJ.out.bda;have HSt:Hid (∀V,Rs w0 V g s a b f l->Ra 35 #[.pointer (some ⟨g,0,none⟩)] V fun e w'=>e=.returned (.tuple #[])/\Rs w0 w' g s a a f l):=fun V hV=>Ii hV (by omega) HJ.out.ba HJ.out.bdb hb0
     have hwr:IntKind.i64.wrap (bj s a)=bj s a:=by rw [RQ];omega
     have hl9:l.length<=2147483647:=by omega
     have HN:Hid (ay s a≠10/\cV (ay s a)=false):=⟨h10,hbl1⟩;have hs':s.size<=2147483647:=by omega
     have qs:(a:Int)<=s.size:=by omega
     have hcases:=CH s a;clear h10 hd hbl hbl1 hbp HPs
     rcases hcases with hk|hk|hk|hk|hk|hk|hk|hk
     ·have HLt:Hid (∀V,Rs w0 V g s a a f l->Ra 36 #[.int .i64 (bj s a)] V fun e w'=>e=.returned (.bool false)/\w'=V):=fun V hV=>by
       have h9:=dj (bj s a) V (hK.below hV.bel).1;rw [show fG (bj s a)=false by rw [ei s a d1];exact Qg hk] at h9;exact h9
      have HDg:Hid (∀V,Ra 37 #[.int .i32 (bj s a)] V fun e w'=>e=.returned (.bool false)/\w'=V):=fun V=>by
       have h9:=bR (bj s a) V;rw [dP,Q9 d1,R6,show cM (ay s a)=false from Qn hk] at h9;exact h9
      have q34:(bj s a == 34)=false:=by rw [Rr];exact fun h=>PY hk ((bL s a 34 (by decide) d1).1 h)
      have q39:(bj s a == 39)=false:=by rw [Rr];exact fun h=>Qr hk ((bL s a 39 (by decide) d1).1 h)
      have q123:(bj s a == 123)=false:=by rw [Rr];exact fun h=>Qu hk ((bL s a 123 (by decide) d1).1 h)
      have HPr:Hid (∀V,Ra 40 #[.string (s.extract a s.size),.string ⟨#[47,47]⟩] V fun e w'=>e=.returned (.bool false)/\w'=V):=fun V=>by
       have h9:=sO (s.extract a s.size) ⟨#[47,47]⟩ V;rw [kA s _ a (by omega),show pre s a ⟨#[47,47]⟩=false from P7 hk d1] at h9;exact h9
      have HTok:Hid (∀V,Rs w0 V g s a a f l->Ra 42 #[.pointer (some ⟨g,0,none⟩)] V fun e w'=>e=.returned (.int .i64 100)/\Rs w0 w' g s a a f l):=fun V hV=>A5 hK hV hs' d1 (PT hk)
      have HE2:Hid (∀V,Rs w0 V g s a a f l->RP w0 V g s/\(fy s).2.1=100):=fun V hV=>HJ.out.none d1 HN.out.1 HN.out.2 hk hV
      clear hk hb0
      go_wp2_with (first|(go_at_call 33;refine (HBl.out _).mono ?_;rintro e w1 ⟨rfl,hb1⟩;have hr1:=Rq.below HR.out hb1;have z1:=(HC.out _ _ _ hr1).2.2)|(go_at_call 35;refine (HSt.out _ hr1).mono ?_;rintro e w2 ⟨rfl,hr2⟩;obtain ⟨y0,y1,y2⟩:=HC.out _ _ _ hr2)|(go_at_call 36;refine (HLt.out _ hr2).mono ?_;rintro e w3 ⟨rfl,hw⟩;replace hw:=hw.symm;subst hw)|(go_at_call 37;refine (HDg.out _).mono ?_;rintro e w4 ⟨rfl,hw⟩;replace hw:=hw.symm;subst hw))
      go_quiet ((go_at_call 40;exact Calls.quiet_of_same (HPr.out _)))
      go_wp2_with (first|(go_at_call 42;refine (HTok.out _ (Rq.below hr2 (dZ _ _))).mono ?_;rintro e w5 ⟨rfl,hr5⟩))
      simp only [Exit.jump]
      go_ret
      rw [(HE2.out _ hr5).2];exact ⟨rfl,(HE2.out _ hr5).1⟩
     have HLt:Hid (∀V,Rs w0 V g s a a f l->Ra 36 #[.int .i64 (bj s a)] V fun e w'=>e=.returned (.bool true)/\w'=V):=fun V hV=>by
      have h9:=dj (bj s a) V (hK.below hV.bel).1;rw [show fG (bj s a)=true by rw [ei s a d1];exact Qf hk] at h9;exact h9
     obtain ⟨E,hE⟩:∃E,(ap s a 1).2=E:=⟨_,rfl⟩
     have HTok:Hid (∀V,Rs w0 V g s a a f l->Ra 38 #[.pointer (some ⟨g,0,none⟩)] V fun e w'=>e=.returned (.int .i64 (E:Nat))/\TP w0 w' g s 1 a f l):=fun V hV=>by
      rw [<-hE];exact EL hK hV hs' d1 hb0 hk hl9
     have HK0:Hid (ak s a=1/\(ap s a 1).2=E):=⟨hk,hE⟩;clear hk hb0 hE
     rotate_left
     have HLt:Hid (∀V,Rs w0 V g s a a f l->Ra 36 #[.int .i64 (bj s a)] V fun e w'=>e=.returned (.bool false)/\w'=V):=fun V hV=>by
      have h9:=dj (bj s a) V (hK.below hV.bel).1;rw [show fG (bj s a)=false by rw [ei s a d1];exact Qe hk] at h9;exact h9
     have HDg:Hid (∀V,Ra 37 #[.int .i32 (bj s a)] V fun e w'=>e=.returned (.bool true)/\w'=V):=fun V=>by
      have h9:=bR (bj s a) V;rw [dP,Q9 d1,R6,show cM (ay s a)=true from Qm hk] at h9;exact h9
     obtain ⟨E,hE⟩:∃E,(ap s a 3).2=E:=⟨_,rfl⟩
     have HTok:Hid (∀V,Rs w0 V g s a a f l->Ra 38 #[.pointer (some ⟨g,0,none⟩)] V fun e w'=>e=.returned (.int .i64 (E:Nat))/\TP w0 w' g s 3 a f l):=fun V hV=>by
      rw [<-hE];exact Jl hV hs' d1 hb0 hk hl9
     have HK0:Hid (ak s a=3/\(ap s a 3).2=E):=⟨hk,hE⟩;clear hk hb0 hE
     rotate_left
     have HLt:Hid (∀V,Rs w0 V g s a a f l->Ra 36 #[.int .i64 (bj s a)] V fun e w'=>e=.returned (.bool false)/\w'=V):=fun V hV=>by
      have h9:=dj (bj s a) V (hK.below hV.bel).1;rw [show fG (bj s a)=false by rw [ei s a d1];exact Qd hk] at h9;exact h9
     have HDg:Hid (∀V,Ra 37 #[.int .i32 (bj s a)] V fun e w'=>e=.returned (.bool false)/\w'=V):=fun V=>by
      have h9:=bR (bj s a) V;rw [dP,Q9 d1,R6,show cM (ay s a)=false from Ql hk] at h9;exact h9
     have q34:(bj s a == 34)=true:=by rw [R5];exact (bL s a 34 (by decide) d1).2 (O6 hk)
     obtain ⟨E,hE⟩:∃E,(ap s a 4).2=E:=⟨_,rfl⟩
     have HTok:Hid (∀V,Rs w0 V g s a a f l->Ra 39 #[.pointer (some ⟨g,0,none⟩)] V fun e w'=>e=.returned (.int .i64 (E:Nat))/\TP w0 w' g s 4 a f l):=fun V hV=>by
      rw [<-hE];exact Dg hV hs' d1 hb0 hk hl9
     have HK0:Hid (ak s a=4/\(ap s a 4).2=E):=⟨hk,hE⟩;clear hk hb0 hE
     rotate_left
     have HLt:Hid (∀V,Rs w0 V g s a a f l->Ra 36 #[.int .i64 (bj s a)] V fun e w'=>e=.returned (.bool false)/\w'=V):=fun V hV=>by
      have h9:=dj (bj s a) V (hK.below hV.bel).1;rw [show fG (bj s a)=false by rw [ei s a d1];exact Qc hk] at h9;exact h9
     have HDg:Hid (∀V,Ra 37 #[.int .i32 (bj s a)] V fun e w'=>e=.returned (.bool false)/\w'=V):=fun V=>by
      have h9:=bR (bj s a) V;rw [dP,Q9 d1,R6,show cM (ay s a)=false from Qk hk] at h9;exact h9
     have q34:(bj s a == 34)=false:=by rw [Rr];exact fun h=>PX hk ((bL s a 34 (by decide) d1).1 h)
     have q39:(bj s a == 39)=true:=by rw [R5];exact (bL s a 39 (by decide) d1).2 (O5 hk)
     obtain ⟨E,hE⟩:∃E,(ap s a 5).2=E:=⟨_,rfl⟩
     have HTok:Hid (∀V,Rs w0 V g s a a f l->Ra 39 #[.pointer (some ⟨g,0,none⟩)] V fun e w'=>e=.returned (.int .i64 (E:Nat))/\TP w0 w' g s 5 a f l):=fun V hV=>by
      rw [<-hE];exact Gl hV hs' d1 hb0 hk hl9
     have HK0:Hid (ak s a=5/\(ap s a 5).2=E):=⟨hk,hE⟩;clear hk hb0 hE
     rotate_left
     have HLt:Hid (∀V,Rs w0 V g s a a f l->Ra 36 #[.int .i64 (bj s a)] V fun e w'=>e=.returned (.bool false)/\w'=V):=fun V hV=>by
      have h9:=dj (bj s a) V (hK.below hV.bel).1;rw [show fG (bj s a)=false by rw [ei s a d1];exact Qb hk] at h9;exact h9
     have HDg:Hid (∀V,Ra 37 #[.int .i32 (bj s a)] V fun e w'=>e=.returned (.bool false)/\w'=V):=fun V=>by
      have h9:=bR (bj s a) V;rw [dP,Q9 d1,R6,show cM (ay s a)=false from Qj hk] at h9;exact h9
     have q34:(bj s a == 34)=false:=by rw [Rr];exact fun h=>PW hk ((bL s a 34 (by decide) d1).1 h)
     have q39:(bj s a == 39)=false:=by rw [Rr];exact fun h=>Qq hk ((bL s a 39 (by decide) d1).1 h)
     have q123:(bj s a == 123)=false:=by rw [Rr];exact fun h=>Qt hk ((bL s a 123 (by decide) d1).1 h)
     have HPr:Hid (∀V,Ra 40 #[.string (s.extract a s.size),.string ⟨#[47,47]⟩] V fun e w'=>e=.returned (.bool false)/\w'=V):=fun V=>by
      have h9:=sO (s.extract a s.size) ⟨#[47,47]⟩ V;rw [kA s _ a (by omega),show pre s a ⟨#[47,47]⟩=false from P0 hk d1] at h9;exact h9
     obtain ⟨E,hE⟩:∃E,(ap s a 6).2=E:=⟨_,rfl⟩
     have HTok:Hid (∀V,Rs w0 V g s a a f l->Ra 42 #[.pointer (some ⟨g,0,none⟩)] V fun e w'=>e=.returned (.int .i64 (E:Nat))/\TP w0 w' g s 6 a f l):=fun V hV=>by
      rw [<-hE];exact DG hK hV hs' d1 hb0 hk hl9
     have HK0:Hid (ak s a=6/\(ap s a 6).2=E):=⟨hk,hE⟩;clear hk hb0 hE
     rotate_left
     have HLt:Hid (∀V,Rs w0 V g s a a f l->Ra 36 #[.int .i64 (bj s a)] V fun e w'=>e=.returned (.bool false)/\w'=V):=fun V hV=>by
      have h9:=dj (bj s a) V (hK.below hV.bel).1;rw [show fG (bj s a)=false by rw [ei s a d1];exact Qa hk] at h9;exact h9
     have HDg:Hid (∀V,Ra 37 #[.int .i32 (bj s a)] V fun e w'=>e=.returned (.bool false)/\w'=V):=fun V=>by
      have h9:=bR (bj s a) V;rw [dP,Q9 d1,R6,show cM (ay s a)=false from Qi hk] at h9;exact h9
     have q34:(bj s a == 34)=false:=by rw [Rr];exact fun h=>PV hk ((bL s a 34 (by decide) d1).1 h)
     have q39:(bj s a == 39)=false:=by rw [Rr];exact fun h=>Qp hk ((bL s a 39 (by decide) d1).1 h)
     have q123:(bj s a == 123)=false:=by rw [Rr];exact fun h=>Qs hk ((bL s a 123 (by decide) d1).1 h)
     have HPr:Hid (∀V,Ra 40 #[.string (s.extract a s.size),.string ⟨#[47,47]⟩] V fun e w'=>e=.returned (.bool true)/\w'=V):=fun V=>by
      have h9:=sO (s.extract a s.size) ⟨#[47,47]⟩ V;rw [kA s _ a (by omega),show pre s a ⟨#[47,47]⟩=true from PZ hk d1] at h9;exact h9
     obtain ⟨E,hE⟩:∃E,(ap s a 7).2=E:=⟨_,rfl⟩
     have HTok:Hid (∀V,Rs w0 V g s a a f l->Ra 41 #[.pointer (some ⟨g,0,none⟩)] V fun e w'=>e=.returned (.int .i64 (E:Nat))/\TP w0 w' g s 7 a f l):=fun V hV=>by
      rw [<-hE];exact ES hV hs' d1 hb0 hk hl9
     have HK0:Hid (ak s a=7/\(ap s a 7).2=E):=⟨hk,hE⟩;clear hk hb0 hE
     rotate_left
     have HLt:Hid (∀V,Rs w0 V g s a a f l->Ra 36 #[.int .i64 (bj s a)] V fun e w'=>e=.returned (.bool false)/\w'=V):=fun V hV=>by
      have h9:=dj (bj s a) V (hK.below hV.bel).1;rw [show fG (bj s a)=false by rw [ei s a d1];exact P9 hk] at h9;exact h9
     have HDg:Hid (∀V,Ra 37 #[.int .i32 (bj s a)] V fun e w'=>e=.returned (.bool false)/\w'=V):=fun V=>by
      have h9:=bR (bj s a) V;rw [dP,Q9 d1,R6,show cM (ay s a)=false from Qh hk] at h9;exact h9
     have q34:(bj s a == 34)=false:=by rw [Rr];exact fun h=>PU hk ((bL s a 34 (by decide) d1).1 h)
     have q39:(bj s a == 39)=false:=by rw [Rr];exact fun h=>Qo hk ((bL s a 39 (by decide) d1).1 h)
     have q123:(bj s a == 123)=true:=by rw [R5];exact (bL s a 123 (by decide) d1).2 (O4 hk)
     obtain ⟨E,hE⟩:∃E,(ap s a 8).2=E:=⟨_,rfl⟩
     have HTok:Hid (∀V,Rs w0 V g s a a f l->Ra 41 #[.pointer (some ⟨g,0,none⟩)] V fun e w'=>e=.returned (.int .i64 (E:Nat))/\TP w0 w' g s 8 a f l):=fun V hV=>by
      rw [<-hE];exact CF hV hs' d1 hb0 hk hl9
     have HK0:Hid (ak s a=8/\(ap s a 8).2=E):=⟨hk,hE⟩;clear hk hb0 hE
     rotate_left
     all_goals (
      by_cases he:E=0
      case' pos=>subst he
      case' neg=>
       have qe:((E:Int) == 0)=false:=by simp;omega
       have HEE:Hid (E≠0):=he;clear he
      all_goals (
       go_wp2_with (first|(go_at_call 33;refine (HBl.out _).mono ?_;rintro e w1 ⟨rfl,hb1⟩;have hr1:=Rq.below HR.out hb1;have z1:=(HC.out _ _ _ hr1).2.2)|(go_at_call 35;refine (HSt.out _ hr1).mono ?_;rintro e w2 ⟨rfl,hr2⟩;obtain ⟨y0,y1,y2⟩:=HC.out _ _ _ hr2)|(go_at_call 36;refine (HLt.out _ hr2).mono ?_;rintro e w3 ⟨rfl,hw⟩;replace hw:=hw.symm;subst hw)|(go_at_call 38;refine (HTok.out _ hr2).mono ?_;rintro e w5 ⟨rfl,hr5⟩)|(go_at_call 37;refine (HDg.out _).mono ?_;rintro e w4 ⟨rfl,hw⟩;replace hw:=hw.symm;subst hw)|(go_at_call 39;refine (HTok.out _ hr2).mono ?_;rintro e w5 ⟨rfl,hr5⟩))
       try (go_quiet ((first|(go_at_call 40;exact Calls.quiet_of_same (HPr.out _))|fail));go_wp2_with (first|(go_at_call 42;refine (HTok.out _ (Rq.below hr2 (dZ _ _))).mono ?_;rintro e w5 ⟨rfl,hr5⟩)|(go_at_call 41;refine (HTok.out _ (Rq.below hr2 (dZ _ _))).mono ?_;rintro e w5 ⟨rfl,hr5⟩)))
       first
        | (obtain ⟨hj,hlt⟩:=HJ.out.tok d1 HN.out.1 HN.out.2 HK0.out.1 (by decide) HK0.out.2 hr5;go_step3;refine ⟨rfl,⟨_,a,0,_,_,_,_,_,_,_,_,_,_,_,_,_,_,_,_,_,_,_,_,_,_,_,_,_,_,_,_,_,_,_,_,_,_,_,_,_,_,_,_,_,_,_,_,_,_,_,_,_,_,_,_,_,_,_,_,_,_,_,_,_,_,_,_,_,_,_,_,_,_,_,_,_,_,_,_,_,_,_,_,_,_,_,hj,rfl⟩,?_⟩;rw [HX.out,hj.rs.at];have:=hj.asz;omega)
        | (obtain ⟨hj,he2⟩:=HJ.out.bad d1 HN.out.1 HN.out.2 HK0.out.1 (by decide) (by rw [HK0.out.2];exact HEE.out) hr5;simp only [Exit.jump];go_ret;rw [he2,HK0.out.2];exact ⟨rfl,hj⟩)))
def ig (s:ByteArray) (c a b:Nat):Int × Int × Int:=if c=0 then (0,0,0) else if c=102 then (a,pL s a,pC s a) else (b,pL s b,pC s b)
theorem Ca (h:Rs w0 W g s a b f l) (c:Nat) (hs:s.size<=2147483647) (hba:b<=a) (ha:bd s a) (hb:bd s b) :
  Ra 16 #[.pointer (some ⟨g,0,none⟩),.int .i64 c] W fun e w'=>e=.returned (.agg #[.int .i64 (ig s c a b).1,.int .i64 (ig s c a b).2.1,.int .i64 (ig s c a b).2.2])/\Below W.heap.size W w':=by
 obtain ⟨h1,h2,v,h3,h4⟩:=h;obtain ⟨W1,hW1⟩:∃W1,W.alloc (.cells #[.int .i64 0,.int .i64 0,.int .i64 0] 30)=W1:=⟨_,rfl⟩;have hB0:Below W.heap.size W W1:=by rw [<-hW1];exact (hH _ _).alloc (gt _) _
 have k0:bV W1 W.heap.size 0 0 0:=by rw [<-hW1];exact bV.new W 0 0 0
 have k3:RB W1 g s a (bj s a) (fj s a) b f v:=ag h3 hB0;obtain ⟨_,_,_,_,c4,c5,c6,_,_⟩:=Rq.cells k3;have g0:=k0.cell0;have g1:=k0.cell1;have g2:=k0.cell2;have f0:=k0.frozen 0;have f1:=k0.frozen 1;have f2:=k0.frozen 2
 by_cases e0:c=0
 ·subst e0;have e1:ig s 0 a b=(0,0,0):=rfl;rw [e1];clear e1 h1 h3 h4 k3 c4 c5 c6
  go_enter Tryz.func16,Tryz.ntmps16
  go_wp2_with fail
  have hb5:=((k0.set0 0).set1 0).set2 0;have m0:=hb5.cell0;have m1:=hb5.cell1;have m2:=hb5.cell2;refine Rg (v:=.agg #[.int .i64 0,.int .i64 0,.int .i64 0]) (by simp [results,Tryz.f16,go_sem,m0,m1,m2]) rfl ?_;exact ⟨rfl,((hB0.setCell (p:=⟨W.heap.size,0,none⟩) (gt _) _).setCell (p:=⟨W.heap.size,1,none⟩) (gt _) _).setCell (p:=⟨W.heap.size,2,none⟩) (gt _) _⟩
 ·have q0:((c:Int) == 0)=false:=by simp;omega
  by_cases e2:c=102
  ·subst e2;have e1:ig s 102 a b=((a:Int),pL s a,pC s a):=rfl;rw [e1];have HH:Hid (Ra 43 #[.pointer (some ⟨g,0,none⟩)] W1 fun e w'=>e=.returned (.agg #[.int .i64 a,.int .i64 (pL s a),.int .i64 (pC s a)])/\Rc W1 w'):=vK k3 hs hba hb ha;clear e1 h1 h3 h4 k3 c4 c5 c6 q0 e0 g0 g1 g2 f0 f1 f2
   generalize pL s a=L2 at *
   generalize pC s a=C2 at *
   go_enter Tryz.func16,Tryz.ntmps16
   go_wp2_with (first|(go_at_call 43;(try rw [hW1]);refine HH.out.mono ?_;rintro e w1 ⟨rfl,hb1⟩;have k1:=k0.below hb1;have g0:=k1.cell0;have g1:=k1.cell1;have g2:=k1.cell2;have f0:=k1.frozen 0;have f1:=k1.frozen 1;have f2:=k1.frozen 2))
   have hb5:=((k1.set0 a).set1 L2).set2 C2;have m0:=hb5.cell0;have m1:=hb5.cell1;have m2:=hb5.cell2;refine Rg (v:=.agg #[.int .i64 a,.int .i64 L2,.int .i64 C2]) (by simp [results,Tryz.f16,go_sem,m0,m1,m2]) rfl ?_;have hbX:=hB0.trans (hb1.mono hB0.size);exact ⟨rfl,((hbX.setCell (p:=⟨W.heap.size,0,none⟩) (gt _) _).setCell (p:=⟨W.heap.size,1,none⟩) (gt _) _).setCell (p:=⟨W.heap.size,2,none⟩) (gt _) _⟩
  ·have q2:((c:Int) == 102)=false:=by simp;omega
   have e1:ig s c a b=((b:Int),pL s b,pC s b):=by unfold ig;rw [Eq e0,Eq e2]
   rw [e1];clear e1 h1 h3 h4 k3 e0 e2
   generalize pL s b=L2 at *
   generalize pC s b=C2 at *
   go_enter Tryz.func16,Tryz.ntmps16
   go_wp2_with fail
   have hb5:=((k0.set0 b).set1 L2).set2 C2;have m0:=hb5.cell0;have m1:=hb5.cell1;have m2:=hb5.cell2;refine Rg (v:=.agg #[.int .i64 b,.int .i64 L2,.int .i64 C2]) (by simp [results,Tryz.f16,go_sem,m0,m1,m2]) rfl ?_;exact ⟨rfl,((hB0.setCell (p:=⟨W.heap.size,0,none⟩) (gt _) _).setCell (p:=⟨W.heap.size,1,none⟩) (gt _) _).setCell (p:=⟨W.heap.size,2,none⟩) (gt _) _⟩
end Go.Proofs.YtnljjdhodelhdaaGreatDoor.Lx
namespace Go.Proofs.YtnljjdhodelhdaaGreatDoor
open Go.Proofs.YtnljjdhodelhdaaGreatDoor.Lx
open Go.RowKit
theorem Rt.base {B B':Nat}{w:World}{v:Value}{l:List Tv}(h:Rt B w v l) (hb:B'<=B):Rt B' w v l:=by
 refine ⟨h.1,?_⟩
 rcases h.2 with h1|⟨g,cap,cur,rfl,h2,h3⟩
 ·exact .inl h1
 ·exact .inr ⟨g,cap,cur,rfl,Q0 hb h2,h3⟩
end Go.Proofs.YtnljjdhodelhdaaGreatDoor
namespace Go.Proofs.YtnljjdhodelhdaaGreatDoor.Lx
open Go.RowKit
theorem KI (s:ByteArray) (w:World) (hT:qk w) (hs:s.size<=2147483647) :
  Ra 6 #[.string s] w fun e w'=>AV w s e w':=by
 obtain ⟨W0,hW0⟩:∃W0,w.alloc (.cells #[.int .i64 0,.int .i64 0,.int .i64 0] 30)=W0:=⟨_,rfl⟩;have hB0:Below w.heap.size w W0:=by rw [<-hW0];exact (hH _ _).alloc (gt _) _
 have k0:bV W0 w.heap.size 0 0 0:=by rw [<-hW0];exact bV.new w 0 0 0
 have hT0:=hT.below hB0;have HS:Hid (∀V,Ra 13 #[] V fun e w'=>e=.returned (.agg #[.int .i64 0,.int .i64 1,.int .i64 1])/\Rc V w'):=qH;have HL:Hid (∀V g,Rq W0 V g s 0 0 0 0 0 []->Ra 14 #[.pointer (some ⟨g,0,none⟩)] V fun e w'=>e=.returned (.tuple #[])/\Rs W0 w' g s 0 0 0 []):=fun V g hV=>vt hV (by omega) (QU _)
 have HD:Hid (∀V g,Rs W0 V g s 0 0 0 []->Ra 15 #[.pointer (some ⟨g,0,none⟩)] V fun e w'=>e=.returned (.int .i64 ((fy s).2.1:Nat))/\RP W0 w' g s):=fun V g hV=>oQ hT0 hV hs
 obtain ⟨p1,p2⟩:=MC s
 have HN:Hid (∀V,Rc W0 V->Rq W0 (V.alloc (.cells #[.string s,.int .i64 0,.int .i32 0,.int .i64 0,.int .i64 0,.int .i64 1,.int .i64 1,.int .i64 0,.slice none 0 0] 53)) V.heap.size s 0 0 0 0 0 []):=fun V hV=>by
  refine ⟨hV.alloc hV.size _,hV.size,.slice none 0 0,?_,Mf _ _⟩;have h9:=aq V (.cells #[.string s,.int .i64 0,.int .i32 0,.int .i64 0,.int .i64 0,.int .i64 1,.int .i64 1,.int .i64 0,.slice none 0 0] 53);unfold RB;rw [p1,p2];exact h9
 clear p1 p2 hT hT0
 go_enter Tryz.func6,Tryz.ntmps6
 go_wp2_with (first|(go_at_call 13;(try rw [hW0]);refine (HS.out _).mono ?_;rintro e w1 ⟨rfl,hb1⟩)|(go_at_call 14;refine (HL.out _ _ (HN.out _ hb1)).mono ?_;rintro e w2 ⟨rfl,hr2⟩)|(go_at_call 15;refine (HD.out _ _ hr2).mono ?_;rintro e w3 ⟨rfl,hr3⟩))
 obtain ⟨a',b',f',hr,t1,t2,t3,t4,t5⟩:=hr3;obtain ⟨c,hc⟩:∃c,(fy s).2.1=c:=⟨_,rfl⟩;obtain ⟨z,hz⟩:∃z,(fy s).2.2=z:=⟨_,rfl⟩;rw [hc] at t4 t5;rw [hz] at t4 t5
 have HV:Hid (AV w s=fun e w'=>(∃v,e=.returned (.tuple #[v,.int .i64 c,.agg #[.int .i64 (ig s c a' b').1,.int .i64 (ig s c a' b').2.1,.int .i64 (ig s c a' b').2.2]])/\Rt w.heap.size w' v ((fy s).1.map (tv s)))/\Rc w w'):=by
  show _=_
  funext e w'
  unfold AV;rw [hc,hz]
  have e1:((if c=0 then 0 else (z:Int))=(ig s c a' b').1/\(if c=0 then 0 else pL s z)=(ig s c a' b').2.1/\(if c=0 then 0 else pC s z)=(ig s c a' b').2.2):=by
   unfold ig
   by_cases c0:c=0
   ·simp only [IO c0];exact ⟨trivial,trivial,trivial⟩
   ·by_cases c2:c=102
    ·have:=t4 c2;subst this;simp only [Eq c0,IO c2];exact ⟨trivial,trivial,trivial⟩
    ·have:=t5 c0 c2;subst this;simp only [Eq c0,Eq c2];exact ⟨trivial,trivial,trivial⟩
  rw [e1.1,e1.2.1,e1.2.2]
 have HF:Hid (∀V,Rc w3 V->Ra 16 #[.pointer (some ⟨w1.heap.size,0,none⟩),.int .i64 c] V fun e w'=>e=.returned (.agg #[.int .i64 (ig s c a' b').1,.int .i64 (ig s c a' b').2.1,.int .i64 (ig s c a' b').2.2])/\Rc V w'):=fun V hV=>Ca (Rq.below hr hV) c (by omega) t3 t1 t2
 obtain ⟨r1,r2,v,r3,r4⟩:=hr;have hne:w1.heap.size≠w.heap.size:=by have h8:=k0.lt;have h9:=hb1.size;omega
 have HK:Hid (∀V,Rc w3 V->V.cell? ⟨w1.heap.size,8,none⟩=some v/\Rc w V):=fun V hV=>⟨af (ag r3 hV) rfl,hB0.trans ((r1.trans (hV.mono r1.size)).mono hB0.size)⟩
 have HKs:Hid (∀V x y z,Rc w3 V->(((V.setCell ⟨w.heap.size,0,none⟩ x).setCell ⟨w.heap.size,1,none⟩ y).setCell ⟨w.heap.size,2,none⟩ z).cell? ⟨w1.heap.size,8,none⟩=some v/\Rc w (((V.setCell ⟨w.heap.size,0,none⟩ x).setCell ⟨w.heap.size,1,none⟩ y).setCell ⟨w.heap.size,2,none⟩ z)/\Rt w.heap.size (((V.setCell ⟨w.heap.size,0,none⟩ x).setCell ⟨w.heap.size,1,none⟩ y).setCell ⟨w.heap.size,2,none⟩ z) v ((fy s).1.map (tv s))):=fun V x y z hV=>by
  have h8:=r4.below hV;have hbX:=(HK.out V hV).2;have h9:∀k,v.ownBlock=some k->k≠w.heap.size:=fun k hk=>by have h7:=r4.own k hk;have h6:=k0.lt;omega
  refine ⟨af (aZ (aZ (aZ (ag r3 hV) hne _) hne _) hne _) rfl,((hbX.setCell (p:=⟨w.heap.size,0,none⟩) (gt _) _).setCell (p:=⟨w.heap.size,1,none⟩) (gt _) _).setCell (p:=⟨w.heap.size,2,none⟩) (gt _) _,?_⟩;exact (((h8.base hB0.size).kp (Kp.set _ w.heap.size 0 _) h9).kp (Kp.set _ w.heap.size 1 _) h9).kp (Kp.set _ w.heap.size 2 _) h9
 have HW:Hid (∀V,Rc w3 V->bV V w.heap.size 0 0 0):=fun V hV=>k0.below (r1.trans (hV.mono r1.size))
 rw [hc];obtain ⟨⟨A,L,C⟩,hR⟩:∃R,ig s c a' b'=R:=⟨_,rfl⟩;rw [hR] at HV HF;clear hr2 hb1 t1 t2 t3 t4 t5 r1 r2 r3 r4 hc hz hW0 k0 hR
 go_region_held3 (fun w'=>w'.cell? ⟨w1.heap.size,8,none⟩=some v/\Below w.heap.size w w') (first|(exact HK.out _ (by assumption))|(exact HK.out _ (hH _ _).drew)|(exact ⟨(HKs.out _ _ _ _ hbX).1,(HKs.out _ _ _ _ hbX).2.1⟩)|go_keep) (first|(go_at_call 16;refine (HF.out _ (hH _ _).drew).mono ?_;rintro e w4 ⟨rfl,hb4⟩;have hbX:Below w3.heap.size w3 w4:=(hH w3.heap.size w3).drew.trans (hb4.mono (gt _));have k2:=HW.out _ hbX;have g0:=k2.cell0;have g1:=k2.cell1;have g2:=k2.cell2;have f0:=k2.frozen 0;have f1:=k2.frozen 1;have f2:=k2.frozen 2))
 all_goals (
  go_wp2_with fail
  have hb5:=((k2.set0 A).set1 L).set2 C;have m0:=hb5.cell0;have m1:=hb5.cell1;have m2:=hb5.cell2;refine Rg (v:=.tuple #[v,.int .i64 c,.agg #[.int .i64 A,.int .i64 L,.int .i64 C]]) (by simp [results,Tryz.f6,go_sem,m0,m1,m2]) rfl ?_;rw [HV.out];exact ⟨⟨v,rfl,(HKs.out _ _ _ _ hbX).2.2⟩,(HKs.out _ _ _ _ hbX).2.1⟩)
theorem Kf (s:ByteArray) (a p i:Nat) (ha:a<=p) (hp:p<=s.size) (hi:a+i<p) (hd:a+i+dw s (a+i)<=p):Utf8.decode (s.extract a p) i=Utf8.decode s (a+i):=by
 have z:(s.extract a s.size).size=s.size-a:=az s a _ (gt _);have t:=gA s a i (by omega)
 have e:s.extract a p=(s.extract a s.size).extract 0 (p-a):=by
  rw [gz s a s.size 0 (p-a) (gt _) (by omega) (QU _),So,show a+(p-a)=p by omega]
 have hw:dw (s.extract a s.size) i=dw s (a+i):=by unfold dw;rw [t]
 rw [e,wq (s.extract a s.size) (p-a) i (by omega) (by omega) (by rw [hw];omega),t]
theorem NW (b0:Nat) {c1 c2 c3 c1' c2' c3':Option Nat}(h:ct c1=false) (h':ct c1'=false):D b0 c1 c2 c3=D b0 c1' c2' c3':=by unfold D;simp [h,h']
theorem NV (b0:Nat) {c1 c2 c3 c2' c3':Option Nat}(h:ct c2=false) (h':ct c2'=false):D b0 c1 c2 c3=D b0 c1 c2' c3':=by unfold D;simp [h,h']
theorem NU (b0:Nat) {c1 c2 c3 c3':Option Nat}(h:ct c3=false) (h':ct c3'=false):D b0 c1 c2 c3=D b0 c1 c2 c3':=by unfold D;simp [h,h']
theorem Cq (a c:ByteArray) (h:ct (ob c 0)=false) (i:Nat) (hi:i<a.size):Utf8.decode (a++c) i=Utf8.decode a i:=by
 have hin:∀j,j<a.size->ob (a++c) j=ob a j:=fun j hj=>by rw [o0,IO hj]
 have hat:ob (a++c) a.size=ob c 0:=by rw [o0,Eq (by omega),T6]
 have hno:ct (ob a a.size)=false:=by unfold ob;rw [Eq (by omega)];rfl
 rw [bZ,bZ,bQ,IO hi]
 by_cases h1:i+1=a.size
 ·exact NW _ (by rw [h1,hat];exact h) (by rw [h1];exact hno)
 ·rw [hin (i+1) (by omega)]
  by_cases h2:i+2=a.size
  ·exact NV _ (by rw [h2,hat];exact h) (by rw [h2];exact hno)
  ·rw [hin (i+2) (by omega)]
   by_cases h3:i+3=a.size
   ·exact NU _ (by rw [h3,hat];exact h) (by rw [h3];exact hno)
   ·rw [hin (i+3) (by omega)]
theorem ej (a c:ByteArray) (i:Nat):gd (a++c) (a.size+i)=gd c i/\dp (a++c) (a.size+i)=dp c i/\dw (a++c) (a.size+i)=dw c i:=by
 unfold gd dp dw;rw [yf a c i];exact ⟨rfl,rfl,rfl⟩
theorem xI (a c t:ByteArray) (i:Nat):pre (a++c) (a.size+i) t=pre c i t:=by
 have hz:=bw a c
 by_cases h:i+t.size<=c.size
 ·rw [Eh (by omega),Eh h]
  have:(a++c).extract (a.size+i) (a.size+i+t.size)=c.extract i (i+t.size):=by
   refine fh _ _ (by rw [az _ _ _ (by omega),az _ _ _ h];omega) (fun j hj=>?_);rw [az _ _ _ (by omega)] at hj;rw [aS _ _ _ _ (by omega),aS _ _ _ _ (by omega),bQ,Eq (by omega)]
   congr 1;omega
  rw [this]
 ·rw [zm (by omega),zm h]
theorem qM (a c:ByteArray) (i:Nat):sg (a++c) (a.size+i)=sg c i:=by
 unfold sg;rw [show pre (a++c) (a.size+i)=pre c i from funext (xI a c · i)]
theorem dV (a c:ByteArray) (i:Nat):ay (a++c) (a.size+i)=ay c i:=by
 rw [bQ,Eq (by omega)];congr 1;omega
theorem qb (a c:ByteArray) (i:Nat):ak (a++c) (a.size+i)=ak c i:=by
 have hz:=bw a c;unfold ak;rw [(ej a c i).1,(ej a c i).2.1,dV,qM,show a.size+i+1=a.size+(i+1) by omega,dV];have:(ay c i=47/\a.size+(i+1)<(a++c).size/\ay c (i+1)=47)↔(ay c i=47/\i+1<c.size/\ay c (i+1)=47):=by rw [hz];constructor <;> rintro ⟨h1,h2,h3⟩ <;> exact ⟨h1,by omega,h3⟩
 simp only [this]
def Rd.up (n:Nat):Rd->Rd
 |.out p e=>.out (n+p) e
 |.on k=>.on k
theorem rX {g g':Nat->Nat->Rd}{z n:Nat}(hg:gj g z) (hg':gj g' (n+z)) (h:∀b k,b<=z->g' (n+b) k=(g b k).up n) :
  ∀(d a m:Nat),z-a<=d->a<=z->run g' (n+z) (n+a) m=(n+(run g z a m).1,(run g z a m).2)
 |d,a,m,hd,ha=>by
  have e0:=h a m ha;cases e:g a m with
  |out p q=>
   rw [e] at e0;rw [cr ha e,cr (by omega) e0]
  |on k=>
   rw [e] at e0;obtain ⟨h3,h4⟩:=hg a m k e;rw [fD hg ha e,fD hg' (by omega) e0,Sw];cases d with
   |zero=>omega
   |succ d=>exact rX hg hg' h d (a+k) (m+1) (by omega) h4
theorem pR (a c:ByteArray) (i k:Nat) (hi:i<c.size):ap (a++c) (a.size+i) k=(a.size+(ap c i k).1,(ap c i k).2):=by
 have hz:=bw a c
 have hQ:∀q o,run (cy (a++c) (a.size+i) q o) (a++c).size (a.size+i+1) 0=(a.size+(run (cy c i q o) c.size (i+1) 0).1,(run (cy c i q o) c.size (i+1) 0).2):=by
  intro q o;have h1:=fe (a++c) (a.size+i) q o;rw [hz] at h1 ⊢;refine rX (fe c i q o) h1 (fun b m hb=>?_) _ (i+1) 0 (gt _) hi;unfold cy gn;rw [dV,(ej a c b).1,(ej a c b).2.1,(ej a c b).2.2,hz];rw [show a.size+b+dw c b-(a.size+i)=b+dw c b-i by omega];simp only [Uc]
  repeat' split
  all_goals rfl
 have hC:∀o,run (bI (a++c) (a.size+i) o) (a++c).size (a.size+i) 0=(a.size+(run (bI c i o) c.size i 0).1,(run (bI c i o) c.size i 0).2):=by
  intro o;have h1:=dd (a++c) (a.size+i) o;rw [hz] at h1 ⊢;refine rX (dd c i o) h1 (fun b m hb=>?_) _ i 0 (gt _) (R4 hi);unfold bI;rw [dV,hz];rw [show a.size+b+1-(a.size+i)=b+1-i by omega];simp only [Uc]
  repeat' split
  all_goals rfl
 have hR:run (ci (a++c) (a.size+i) k) (a++c).size (a.size+i) 0=(a.size+(run (ci c i k) c.size i 0).1,(run (ci c i k) c.size i 0).2):=by
  have h1:=da (a++c) (a.size+i) k;rw [hz] at h1 ⊢;refine rX (da c i k) h1 (fun b m hb=>?_) _ i 0 (gt _) (R4 hi);unfold ci;rw [dV,(ej a c b).1,(ej a c b).2.1,(ej a c b).2.2,hz];rw [show a.size+b+dw c b-(a.size+i)=b+dw c b-i by omega];simp only [Uc]
  repeat' split
  all_goals rfl
 unfold ap;rw [hQ,hQ,hC,hC,hR,qM]
 repeat' split
 all_goals first|rfl|(rw [Sw])
theorem pO (a c:ByteArray) (i p:Nat) (hp:p<=c.size):(a++c).extract (a.size+i) (a.size+p)=c.extract i p:=by
 have hz:=bw a c;refine fh _ _ (by rw [az _ _ _ (by omega),az _ _ _ hp];omega) (fun j hj=>?_);rw [az _ _ _ (by omega)] at hj;rw [aS _ _ _ _ (by omega),aS _ _ _ _ (by omega),bQ,Eq (by omega)]
 congr 1;omega
theorem mn (a c:ByteArray) (j:Nat) (hj:cV (ay c j)=false):∀p,j<p->be (a++c) (a.size+p)=a.size+be c p
 |0,h=>by omega
 |p+1,h=>by
  rw [show a.size+(p+1)=(a.size+p)+1 by omega];unfold be;rw [dV]
  by_cases e:cV (ay c p)=true
  ·rw [IO e,IO e];refine mn a c j hj p ?_
   rcases Uu j p with h2|h2
   ·exact h2
   ·rw [show j=p by omega,e] at hj;cases hj
  ·rw [Eq e,Eq e];omega
def Tk.up (n:Nat) (t:Tk):Tk:=⟨t.k,n+t.a,n+t.e,t.f⟩
theorem xe (a c:ByteArray) (k i p f:Nat) (hi:cV (ay c i)=false) (hp:i<p) (hz:p<=c.size):cQ (a++c) k (a.size+i) (a.size+p) f=(cQ c k i p f).up a.size:=by
 unfold cQ Tk.up;rw [pO a c i p hz,mn a c i hi p hp]
 congr 1
 split <;> rfl
theorem fZ (a c:ByteArray):∀(d i f:Nat),c.size-i<=d->gT (a++c) (a.size+i) f=((gT c i f).1.map (Tk.up a.size),(gT c i f).2.1,if (gT c i f).2.1=0 then 0 else a.size+(gT c i f).2.2)
 |d,i,f,hd=>by
  have hz:=bw a c
  by_cases h:i<c.size
  ·cases d with
   |zero=>omega
   |succ d=>
    rw [cq (a++c) (a.size+i) f (by omega),cq c i f h,dV,qb,pR a c i _ h]
    by_cases h1:ay c i=10
    ·rw [IO h1,IO h1,Sw];exact fZ a c d (i+1) (f+1) (by omega)
    ·rw [Eq h1,Eq h1]
     by_cases h2:cV (ay c i)=true
     ·rw [IO h2,IO h2,Sw];exact fZ a c d (i+1) f (by omega)
     ·rw [Eq h2,Eq h2]
      by_cases h3:ak c i=0
      ·rw [IO h3,IO h3];rfl
      ·rw [Eq h3,Eq h3]
       by_cases h4:(ap c i (ak c i)).2≠0
       ·rw [IO h4,IO h4];show _=(_,_,if (ap c i (ak c i)).2=0 then 0 else _);rw [Eq h4];rfl
       ·rw [Eq h4,Eq h4];have h5:=eC c i (ak c i) (ap c i (ak c i)).1 h rfl h3 (UW rfl (by simpa using h4));have h6:=fZ a c d (ap c i (ak c i)).1 0 (by omega);show (cQ (a++c) _ _ (a.size+(ap c i (ak c i)).1) f :: (gT (a++c) (a.size+(ap c i (ak c i)).1) 0).1,(gT (a++c) (a.size+(ap c i (ak c i)).1) 0).2)=_;rw [h6,xe a c _ i _ f (by simpa using h2) h5.1 h5.2];rfl
  ·rw [eG (a++c) (a.size+i) f (by omega),eG c i f (by omega)];rfl
theorem pK {f g:ByteArray->Bool}:∀l:List ByteArray,(∀x∈l,f x=g x)->l.find? f=l.find? g
 |[],_=>rfl
 |x :: l,h=>by
  rw [List.find?_cons,List.find?_cons,h x (QY ..),pK l (fun y hy=>h y (QZ _ hy))]
theorem DH:∀x∈bk,x.size=1\/(x.size=2/\ay x 1≠10):=by decide
theorem ro (a c:ByteArray) (i p:Nat) (hp:p<=a.size):(a++c).extract i p=a.extract i p:=by
 have hz:=bw a c;refine fh _ _ (by rw [az _ _ _ (by omega),az _ _ _ hp]) (fun j hj=>?_);rw [az _ _ _ (by omega)] at hj;rw [aS _ _ _ _ (by omega),aS _ _ _ _ (by omega),bQ,IO (by omega)]
theorem ep (a c:ByteArray) (i:Nat) (hi:i<a.size):ay (a++c) i=ay a i:=by rw [bQ,IO hi]
def dU:ByteArray:=⟨#[10]⟩
theorem yY (s:ByteArray) (f k b m p:Nat) (h:ci s f k b m=.out p 0):b<=p:=by
 unfold ci at h
 repeat' split at h
 all_goals cases h
 all_goals exact gt _
theorem IL (s:ByteArray) (f q:Nat) (o:Bool) (b m p:Nat) (h:cy s f q o b m=.out p 0):b<=p:=by
 unfold cy at h
 repeat' split at h
 all_goals cases h
 all_goals omega
theorem As (s:ByteArray) (f:Nat) (o:Bool) (b m p:Nat) (h:bI s f o b m=.out p 0):b<=p:=by
 unfold bI at h
 repeat' split at h
 all_goals cases h
 all_goals omega
end Go.Proofs.YtnljjdhodelhdaaGreatDoor.Lx
