import Derived.Deep.QuietTactic
import Derived.BigQuiet
import Derived.Test.YtkigadnkclkopaaGreatDoorM02
set_option linter.unusedVariables false
set_option linter.unusedSimpArgs false
namespace Go.Proofs.YtkigadnkclkopaaGreatDoor.Lx
theorem vv_lt (c:Option Nat):vv c<64:=Nat.mod_lt _ (by omega)
theorem D_w2 (b0:Nat) (c1 c2 c3:Option Nat):(D b0 c1 c2 c3).2=2↔b0 / 32=6∧ct c1=true∧128≤b0 % 32*64+vv c1:=by
 have:=vv_lt c1
 unfold D
 generalize vv c1=v1 at *
 generalize vv c2=v2 at *
 generalize vv c3=v3 at *
 generalize ct c1=t1 at *
 generalize ct c2=t2 at *
 generalize ct c3=t3 at *
 by_cases h1:b0<128
 ·rw [if_pos h1];simp;omega
 ·rw [if_neg h1]
  cases t1 <;> cases t2 <;> cases t3 <;> simp
  all_goals (repeat' split)
  all_goals simp_all
  all_goals omega
theorem D_w3 (b0:Nat) (c1 c2 c3:Option Nat):(D b0 c1 c2 c3).2=3↔b0 / 16=14∧ct c1=true∧ct c2=true∧2048≤b0 % 16*4096+vv c1*64+vv c2 ∧
  (b0 % 16*4096+vv c1*64+vv c2<55296∨57344≤b0 % 16*4096+vv c1*64+vv c2):=by
 have h1:=vv_lt c1
 have h2:=vv_lt c2
 unfold D Utf8.valid
 generalize vv c1=v1 at *
 generalize vv c2=v2 at *
 generalize vv c3=v3 at *
 generalize ct c1=t1 at *
 generalize ct c2=t2 at *
 generalize ct c3=t3 at *
 by_cases h1:b0<128
 ·rw [if_pos h1];simp;omega
 ·rw [if_neg h1]
  cases t1 <;> cases t2 <;> cases t3 <;> simp
  all_goals (repeat' split)
  all_goals simp_all
  all_goals omega
theorem D_w4 (b0:Nat) (c1 c2 c3:Option Nat):(D b0 c1 c2 c3).2=4↔b0 / 8=30∧ct c1=true∧ct c2=true∧ct c3=true∧65536≤b0 % 8*262144+vv c1*4096+vv c2*64+vv c3 ∧
  b0 % 8*262144+vv c1*4096+vv c2*64+vv c3≤1114111:=by
 have h1:=vv_lt c1
 have h2:=vv_lt c2
 have h3:=vv_lt c3
 unfold D Utf8.valid
 generalize vv c1=v1 at *
 generalize vv c2=v2 at *
 generalize vv c3=v3 at *
 generalize ct c1=t1 at *
 generalize ct c2=t2 at *
 generalize ct c3=t3 at *
 by_cases h1:b0<128
 ·rw [if_pos h1];simp;omega
 ·rw [if_neg h1]
  cases t1 <;> cases t2 <;> cases t3 <;> simp
  all_goals (repeat' split)
  all_goals simp_all
  all_goals omega
theorem D_le4 (b0:Nat) (c1 c2 c3:Option Nat):(D b0 c1 c2 c3).2≤4:=by
 rcases D_ways b0 c1 c2 c3 with h1|⟨h1,h2⟩|⟨_,_,h2,_⟩|⟨_,_,_,h2,_⟩|⟨_,_,_,_,h2⟩
 ·rw [h1];decide
 ·rw [h2];show 1≤4;omega
 ·omega
 ·omega
 ·omega
theorem n2 (b v:Nat) (h:128≤b % 32*64+v) (hv:v<64):128≤b % 32*64+0:=by omega
theorem n3a (b:Nat) (hb:b % 16=0):2048≤b % 16*4096+63*64+63∧(b % 16*4096+63*64+63<55296∨57344≤b % 16*4096+63*64+63):=by omega
theorem n3b (b:Nat) (hb:¬b % 16=0):2048≤b % 16*4096+0*64+0∧(b % 16*4096+0*64+0<55296∨57344≤b % 16*4096+0*64+0):=by omega
theorem n3c (b v w:Nat) (hw:w<64) (h:2048≤b % 16*4096+v*64+w) (h2:b % 16*4096+v*64+w<55296∨57344≤b % 16*4096+v*64+w) :
  2048≤b % 16*4096+v*64+0∧(b % 16*4096+v*64+0<55296∨57344≤b % 16*4096+v*64+0):=by omega
theorem n4a (b:Nat) (hb:b % 8=0):65536≤b % 8*262144+63*4096+63*64+63∧b % 8*262144+63*4096+63*64+63≤1114111:=by omega
theorem n4b (b v1 v2 v3:Nat) (hb:¬b % 8=0) (h:b % 8*262144+v1*4096+v2*64+v3≤1114111):65536≤b % 8*262144+0*4096+0*64+0∧b % 8*262144+0*4096+0*64+0≤1114111:=by omega
theorem n4c (b v1 v2 v3:Nat) (h2:v2<64) (h3:v3<64) (h0:65536≤b % 8*262144+v1*4096+v2*64+v3) (h:b % 8*262144+v1*4096+v2*64+v3≤1114111):65536≤b % 8*262144+v1*4096+0*64+0∧b % 8*262144+v1*4096+0*64+0≤1114111:=by omega
theorem n4d (b v1 v2 v3:Nat) (h3:v3<64) (h0:65536≤b % 8*262144+v1*4096+v2*64+v3) (h:b % 8*262144+v1*4096+v2*64+v3≤1114111):65536≤b % 8*262144+v1*4096+v2*64+0∧b % 8*262144+v1*4096+v2*64+0≤1114111:=by omega
theorem two3 (n:Nat) (h:2<n) (h4:n≤4):n=3∨n=4:=by omega
theorem one3 (n:Nat) (h:1<n) (h4:n≤4):n=2∨n=3∨n=4:=by omega
theorem D_open (b0:Nat) (c1 c2 c3 x y:Option Nat) (a0:ct x=true) (a1:ct y=true) (v0:vv x=0) (v1:vv y=63) :
  (1<(D b0 c1 c2 c3).2→1<(D b0 x x x).2∨1<(D b0 y y y).2) ∧
  (2<(D b0 c1 c2 c3).2→2<(D b0 c1 x x).2) ∧
  (3<(D b0 c1 c2 c3).2→3<(D b0 c1 c2 x).2):=by
 have h4:=D_le4 b0 c1 c2 c3
 refine ⟨fun h=>?_,fun h=>?_,fun h=>?_⟩
 ·rcases one3 _ h h4 with e|e|e
  ·obtain ⟨q1,q2,q3⟩:=(D_w2 _ _ _ _).1 e
   left
   rw [(D_w2 b0 x x x).2 ⟨q1,a0,by rw [v0];exact n2 _ _ q3 (vv_lt _)⟩];decide
  ·obtain ⟨q1,q2,q3,q4,q5⟩:=(D_w3 _ _ _ _).1 e
   by_cases hb:b0 % 16=0
   ·right
    rw [(D_w3 b0 y y y).2 ⟨q1,a1,a1,by rw [v1];exact n3a _ hb⟩];decide
   ·left
    rw [(D_w3 b0 x x x).2 ⟨q1,a0,a0,by rw [v0];exact n3b _ hb⟩];decide
  ·obtain ⟨q1,q2,q3,q4,q5,q6⟩:=(D_w4 _ _ _ _).1 e
   by_cases hb:b0 % 8=0
   ·right
    rw [(D_w4 b0 y y y).2 ⟨q1,a1,a1,a1,by rw [v1];exact n4a _ hb⟩];decide
   ·left
    rw [(D_w4 b0 x x x).2 ⟨q1,a0,a0,a0,by rw [v0];exact n4b _ _ _ _ hb q6⟩];decide
 ·rcases two3 _ h h4 with e|e
  ·obtain ⟨q1,q2,q3,q4,q5⟩:=(D_w3 _ _ _ _).1 e
   rw [(D_w3 b0 c1 x x).2 ⟨q1,q2,a0,by rw [v0];exact n3c _ _ _ (vv_lt _) q4 q5⟩];decide
  ·obtain ⟨q1,q2,q3,q4,q5,q6⟩:=(D_w4 _ _ _ _).1 e
   rw [(D_w4 b0 c1 x x).2 ⟨q1,q2,a0,a0,by rw [v0];exact n4c _ _ _ _ (vv_lt _) (vv_lt _) q5 q6⟩];decide
 ·obtain ⟨q1,q2,q3,q4,q5,q6⟩:=(D_w4 _ _ _ _).1 (Nat.le_antisymm h4 h)
  rw [(D_w4 b0 c1 c2 x).2 ⟨q1,q2,q3,a0,by rw [v0];exact n4d _ _ _ _ (vv_lt _) q5 q6⟩];decide
theorem get_app (a b:ByteArray) (i:Nat):(a++b).get! i=if i<a.size then a.get! i else b.get! (i-a.size):=by
 have e:∀(x:ByteArray) (k:Nat),x.get! k=x.data.toList[k]?.getD default:=by
  intro x k
  show x.data[k]! = _
  rw [Array.getElem!_eq_getD,Array.getD_eq_getD_getElem?,Array.getElem?_toList]
 have hz:a.data.toList.length=a.size:=by simp
 rw [e,e,e,ByteArray.data_append,Array.toList_append]
 by_cases h:i<a.size
 ·rw [if_pos h,List.getElem?_append_left (by omega)]
 ·rw [if_neg h,List.getElem?_append_right (by omega),hz]
theorem size_app (a b:ByteArray):(a++b).size=a.size+b.size:=by simp [ByteArray.size_append]
theorem ob_app (a b:ByteArray) (i:Nat):ob (a++b) i=if i<a.size then ob a i else ob b (i-a.size):=by
 unfold ob by8
 rw [size_app,get_app]
 by_cases h:i<a.size
 ·rw [if_pos h,if_pos (by omega),if_pos h,if_pos h]
 ·rw [if_neg h]
  by_cases h2:i-a.size<b.size
  ·rw [if_pos (by omega),if_neg h,if_pos h2]
  ·rw [if_neg (by omega),if_neg h,if_neg h2]
theorem by8_app (a b:ByteArray) (i:Nat):by8 (a++b) i=if i<a.size then by8 a i else by8 b (i-a.size):=by
 unfold by8
 rw [get_app]
 split <;> rfl
theorem opn_of (t b:ByteArray) (h0:0<t.size) (h:t.size<dw (t++b) 0):opn t=true:=by
 have key:∀x:ByteArray,x.size=3→t.size<dw (t++x) 0→goB t x=true:=by
  intro x hx hd
  unfold goB
  have:gd (t++x) 0=true:=by unfold gd gdb;simp;omega
  rw [this];simpa using hd
 unfold dw at h
 rw [decode_eq] at h
 have hle:=D_le4 (by8 (t++b) 0) (ob (t++b) (0+1)) (ob (t++b) (0+2)) (ob (t++b) (0+3))
 have ho:=D_open (by8 (t++b) 0) (ob (t++b) (0+1)) (ob (t++b) (0+2)) (ob (t++b) (0+3)) (some 128) (some 191) (by decide) (by decide) (by decide) (by decide)
 have b0:∀x,by8 (t++x) 0=by8 t 0:=fun x=>by rw [by8_app,if_pos h0]
 have o8:∀k,k<3→ob ⟨#[128,128,128]⟩ k=some 128:=by
  intro k hk
  match k,hk with
  |0,_=>decide
  |1,_=>decide
  |2,_=>decide
 have oB:∀k,k<3→ob ⟨#[191,191,191]⟩ k=some 191:=by
  intro k hk
  match k,hk with
  |0,_=>decide
  |1,_=>decide
  |2,_=>decide
 have w8:t.size<(D (by8 t 0) (ob (t++⟨#[128,128,128]⟩) (0+1)) (ob (t++⟨#[128,128,128]⟩) (0+2)) (ob (t++⟨#[128,128,128]⟩) (0+3))).2→opn t=true:=by
  intro hq
  unfold opn
  rw [key ⟨#[128,128,128]⟩ rfl (by unfold dw;rw [decode_eq,b0];exact hq)];rfl
 have wB:t.size<(D (by8 t 0) (ob (t++⟨#[191,191,191]⟩) (0+1)) (ob (t++⟨#[191,191,191]⟩) (0+2)) (ob (t++⟨#[191,191,191]⟩) (0+3))).2→opn t=true:=by
  intro hq
  unfold opn
  rw [key ⟨#[191,191,191]⟩ rfl (by unfold dw;rw [decode_eq,b0];exact hq)];simp
 rw [b0] at h hle ho
 obtain ⟨ho1,ho2,ho3⟩:=ho
 rcases (show t.size=1∨t.size=2∨t.size=3 by omega) with e|e|e
 ·rcases ho1 (by omega) with q|q
  ·apply w8
   rw [ob_app,ob_app,ob_app,if_neg (by omega),if_neg (by omega),if_neg (by omega),o8 _ (by omega),o8 _ (by omega),o8 _ (by omega),e]
   exact q
  ·apply wB
   rw [ob_app,ob_app,ob_app,if_neg (by omega),if_neg (by omega),if_neg (by omega),oB _ (by omega),oB _ (by omega),oB _ (by omega),e]
   exact q
 ·have q:=ho2 (by omega)
  apply w8
  rw [ob_app,if_pos (by omega)] at q
  rw [ob_app,ob_app,ob_app,if_pos (by omega),if_neg (by omega),if_neg (by omega),o8 _ (by omega),o8 _ (by omega),e]
  exact q
 ·have q:=ho3 (by omega)
  apply w8
  rw [ob_app,ob_app,if_pos (by omega),if_pos (by omega)] at q
  rw [ob_app,ob_app,ob_app,if_pos (by omega),if_pos (by omega),if_neg (by omega),o8 _ (by omega),e]
  exact q
theorem opn_first (t:ByteArray) (h0:0<t.size) (h:opn t=true):¬by8 t 0 / 64=2:=by
 intro hb
 have key:∀x:ByteArray,goB t x=false:=by
  intro x
  have e:dw (t++x) 0=1:=by
   unfold dw
   rw [later_bad (t++x) 0 (by rw [by8_app,if_pos h0];exact hb)]
  unfold goB
  rw [e]
  have:decide (t.size<1)=false:=decide_eq_false (by omega)
  rw [this];simp
 unfold opn at h
 rw [key,key] at h
 cases h
theorem whF_facts (s:ByteArray):∀f n,1≤n→(whF s f n=s.size∧∀m,n≤m→m<n+f→m≤s.size→opn (s.extract (s.size-m) s.size)=false) ∨
  (∃m,n≤m∧m<n+f∧m≤s.size∧whF s f n=s.size-m∧opn (s.extract (s.size-m) s.size)=true)
 |0,n,_=>.inl ⟨rfl,fun m h1 h2=>by omega⟩
 |f+1,n,hn=>by
  unfold whF
  by_cases hs:n≤s.size
  ·rw [if_pos hs]
   by_cases ho:opn (s.extract (s.size-n) s.size)=true
   ·rw [if_pos ho]
    exact .inr ⟨n,by omega,by omega,hs,rfl,ho⟩
   ·rw [if_neg ho]
    rcases whF_facts s f (n+1) (by omega) with ⟨h1,h2⟩|⟨m,h1,h2,h3,h4,h5⟩
    ·refine .inl ⟨h1,fun m g1 g2 g3=>?_⟩
     by_cases e:m=n
     ·subst e;simpa using ho
     ·exact h2 m (by omega) (by omega) g3
    ·exact .inr ⟨m,by omega,by omega,h3,h4,h5⟩
  ·rw [if_neg hs]
   exact .inl ⟨rfl,fun m g1 g2 g3=>by omega⟩
theorem wh_facts (s:ByteArray):(wh s=s.size∧∀m,1≤m→m≤3→m≤s.size→opn (s.extract (s.size-m) s.size)=false) ∨
  (∃m,1≤m∧m≤3∧m≤s.size∧wh s=s.size-m∧opn (s.extract (s.size-m) s.size)=true):=by
 rcases whF_facts s 3 1 (by omega) with ⟨h1,h2⟩|⟨m,h1,h2,h3,h4,h5⟩
 ·exact .inl ⟨h1,fun m g1 g2 g3=>h2 m g1 (by omega) g3⟩
 ·exact .inr ⟨m,h1,by omega,h3,h4,h5⟩
theorem wh_bd (s:ByteArray):wh s≤s.size∧s.size≤wh s+3:=by
 rcases wh_facts s with ⟨h1,_⟩|⟨m,h1,h2,h3,h4,_⟩ <;> omega
theorem app_tail (a b:ByteArray) (i:Nat) (hi:i≤a.size):Utf8.decode (a.extract i a.size++b) 0=Utf8.decode (a++b) i:=by
 have hz:=size_ext a i a.size (Nat.le_refl _)
 refine decode_congr _ _ _ _ (fun k _=>?_) (fun k _=>by rw [size_app,size_app,hz];omega)
 rw [get_app,get_app,hz,get_ext]
 by_cases h:i+k<a.size
 ·rw [if_pos (by omega),if_pos (by omega),if_pos h,Nat.zero_add]
 ·rw [if_neg (by omega),if_neg h,show 0+k-(a.size-i)=i+k-a.size by omega]
theorem dec_whole (a b:ByteArray) (i:Nat) (hi:i<wh a):Utf8.decode (a++b) i=Utf8.decode (a.extract 0 (wh a)) i:=by
 have hwb:=wh_bd a
 have hhead:∀k,ob (a.extract 0 (wh a)) k=if k<wh a then ob (a++b) k else none:=by
  intro k
  rw [ob_head a _ _ hwb.1]
  by_cases h:k<wh a
  ·rw [if_pos h,if_pos h,ob_app,if_pos (by omega)]
  ·rw [if_neg h,if_neg h]
 have h8:by8 (a.extract 0 (wh a)) i=by8 (a++b) i:=by rw [by8_head a _ _ hi,by8_app,if_pos (by omega)]
 have hless:∀k,ob (a.extract 0 (wh a)) k=ob (a++b) k∨ob (a.extract 0 (wh a)) k=none:=by
  intro k
  rw [hhead]
  split <;> simp
 by_cases hg:gD (Utf8.decode (a.extract 0 (wh a)) i)
 ·have e:=hg
  rw [decode_eq,h8] at e
  rw [decode_eq,decode_eq (a.extract 0 (wh a)),h8]
  exact D_more _ (hless _) (hless _) (hless _) e
 ·have e2:Utf8.decode (a.extract 0 (wh a)) i=(65533,1):=by
   rw [decode_eq];apply D_notgood;rw [←decode_eq];exact hg
  rw [e2]
  by_cases hgc:gD (Utf8.decode (a++b) i)
  ·exfalso
   by_cases hcr:i+dw (a++b) i≤wh a
   ·apply hg
    have:Utf8.decode (a.extract 0 (wh a)) i=Utf8.decode (a++b) i:=by
     unfold dw at hcr
     rw [decode_eq] at hcr
     rw [decode_eq,decode_eq (a++b),h8]
     refine D_same _ (hless _) (hless _) (hless _) (fun h=>?_) (fun h=>?_) (fun h=>?_)
     all_goals rw [hhead,if_pos (by omega)]
    rw [this];exact hgc
   ·rcases wh_facts a with ⟨w1,w2⟩|⟨m,m1,m2,m3,w1,w2⟩
    ·have h4:dw (a++b) i≤4:=by unfold dw;rw [decode_eq];exact D_le4 _ _ _ _
     have:=w2 (a.size-i) (by omega) (by omega) (by omega)
     rw [show a.size-(a.size-i)=i by omega] at this
     rw [opn_of (a.extract i a.size) b (by rw [size_ext a i _ (Nat.le_refl _)];omega) (by
      unfold dw;rw [app_tail a b i (by omega),size_ext a i _ (Nat.le_refl _)]
      show _<dw (a++b) i
      omega)] at this
     cases this
    ·have hin:=dec_inner (a++b) i (wh a-i) (by omega) (by omega)
     rw [show i+(wh a-i)=wh a by omega,by8_app,if_pos (by omega)] at hin
     apply opn_first _ (by rw [size_ext a _ _ (Nat.le_refl _)];omega) w2
     rw [←w1]
     unfold by8
     rw [get_ext,if_pos (by omega),Nat.add_zero]
     exact hin.2
  ·rw [decode_eq];apply D_notgood;rw [←decode_eq];exact hgc
theorem st_whole (a b:ByteArray):∀k,k≤(P (a.extract 0 (wh a))).length→st (a++b) k=st (a.extract 0 (wh a)) k
 |0,_=>rfl
 |k+1,h=>by
  have ih:=st_whole a b k (by omega)
  have hz:=size_ext a 0 (wh a) (wh_bd a).1
  have h1:=(st_lt (a.extract 0 (wh a)) k).2 (by omega)
  have h2:st (a++b) k<(a++b).size:=by rw [ih,size_app];have:=(wh_bd a).1;omega
  rw [st_succ (a++b) k ((st_lt _ k).1 h2),st_succ (a.extract 0 (wh a)) k (by omega),ih]
  unfold dw
  rw [dec_whole a b _ (by omega)]
theorem points_whole (a b:ByteArray):∃m,m=(P (a.extract 0 (wh a))).length∧m≤(P (a++b)).length∧((P (a++b)).map (dp (a++b))).take m=(P (a.extract 0 (wh a))).map (dp (a.extract 0 (wh a))):=by
 have hz:=size_ext a 0 (wh a) (wh_bd a).1
 have hm:(P (a.extract 0 (wh a))).length≤(P (a++b)).length:=by
  apply Nat.le_of_not_lt
  intro hlt
  have h1:=(st_lt (a.extract 0 (wh a)) (P (a++b)).length).2 hlt
  have h2:=st_whole a b (P (a++b)).length (by omega)
  have h3:=st_end (a++b) _ (Nat.le_refl _)
  rw [size_app] at h3
  have:=(wh_bd a).1
  omega
 refine ⟨_,rfl,hm,?_⟩
 apply List.ext_getElem?
 intro k
 rw [List.getElem?_take]
 by_cases hk:k<(P (a.extract 0 (wh a))).length
 ·have h1:=(st_lt (a.extract 0 (wh a)) k).2 hk
  rw [if_pos hk,List.getElem?_map,List.getElem?_map,P_at _ k hk,P_at _ k (by omega),st_whole a b k (by omega)]
  simp only [Option.map_some]
  unfold dp
  rw [dec_whole a b _ (by omega)]
 ·rw [if_neg hk,List.getElem?_map,List.getElem?_eq_none (by omega),Option.map_none]
theorem extract_all (a:ByteArray):a.extract 0 a.size=a:=by
 apply ByteArray.ext
 rw [ByteArray.data_extract]
 exact Array.extract_size
theorem ba_ext (a b:ByteArray) (hz:a.size=b.size) (h:∀i,i<a.size→a.get! i=b.get! i):a=b:=by
 apply ByteArray.ext
 apply Array.ext
 ·exact hz
 ·intro i h1 h2
  have:=h i h1
  have e:∀(x:ByteArray) (hx:i<x.data.size),x.get! i=x.data[i]:=by
   intro x hx
   show x.data[i]! = _
   exact getElem!_pos x.data i hx
  rw [e a h1,e b h2] at this
  exact this
theorem by8_ext (a b:ByteArray) (hz:a.size=b.size) (h:∀i,i<a.size→by8 a i=by8 b i):a=b:=
 ba_ext a b hz (fun i hi=>UInt8.toNat_inj.1 (h i hi))
theorem D_v2 (b0:Nat) (c1 c2 c3:Option Nat) (h1:b0 / 32=6) (h2:ct c1=true) (h3:128≤b0 % 32*64+vv c1):D b0 c1 c2 c3=(b0 % 32*64+vv c1,2):=by
 unfold D
 rw [if_neg (by omega),if_pos (by rw [h2];simp;omega),if_pos h3]
theorem D_v3 (b0:Nat) (c1 c2 c3:Option Nat) (h1:b0 / 16=14) (h2:ct c1=true) (h2':ct c2=true) (h3:2048≤b0 % 16*4096+vv c1*64+vv c2)
  (h4:b0 % 16*4096+vv c1*64+vv c2<55296∨57344≤b0 % 16*4096+vv c1*64+vv c2):D b0 c1 c2 c3=(b0 % 16*4096+vv c1*64+vv c2,3):=by
 have hw:=(D_w3 b0 c1 c2 c3).2 ⟨h1,h2,h2',h3,h4⟩
 unfold D at hw ⊢
 have e1:(b0 / 32 == 6)=false:=by simp;omega
 have e2:(b0 / 16 == 14)=true:=by simp;omega
 rw [if_neg (by omega),e1,h2,h2',e2] at hw ⊢
 simp only [Bool.false_and,Bool.true_and,Bool.and_true,if_true,if_false,Bool.false_eq_true] at hw ⊢
 split
 ·rfl
 ·rename_i hn;rw [if_neg hn] at hw;cases hw
theorem D_v4 (b0:Nat) (c1 c2 c3:Option Nat) (h1:b0 / 8=30) (h2:ct c1=true) (h2':ct c2=true) (h2'':ct c3=true) (h3:65536≤b0 % 8*262144+vv c1*4096+vv c2*64+vv c3)
  (h4:b0 % 8*262144+vv c1*4096+vv c2*64+vv c3≤1114111):D b0 c1 c2 c3=(b0 % 8*262144+vv c1*4096+vv c2*64+vv c3,4):=by
 have hw:=(D_w4 b0 c1 c2 c3).2 ⟨h1,h2,h2',h2'',h3,h4⟩
 unfold D at hw ⊢
 have e1:(b0 / 32 == 6)=false:=by simp;omega
 have e2:(b0 / 16 == 14)=false:=by simp;omega
 have e3:(b0 / 8 == 30)=true:=by simp;omega
 rw [if_neg (by omega),e1,h2,h2',h2'',e2,e3] at hw ⊢
 simp only [Bool.false_and,Bool.true_and,Bool.and_true,if_true,if_false,Bool.false_eq_true] at hw ⊢
 split
 ·rfl
 ·rename_i hn;rw [if_neg hn] at hw;cases hw
def pt (c:Nat):Prop:=c<55296∨(57344≤c∧c≤1114111)
theorem pt_valid (c:Nat) (h:pt c):Utf8.valid (c:Int)=true:=by
 unfold pt at h
 unfold Utf8.valid
 rcases h with h|h
 ·simp;omega
 ·simp;omega
theorem enc_eq (c:Nat) (h:pt c):Utf8.encode (c:Int) =
  if c<0x80 then ⟨#[UInt8.ofNat c]⟩
  else if c<0x800 then ⟨#[UInt8.ofNat (0xC0+c / 64),UInt8.ofNat (0x80+c % 64)]⟩
  else if c<0x10000 then ⟨#[UInt8.ofNat (0xE0+c / 4096),UInt8.ofNat (0x80+c / 64 % 64),UInt8.ofNat (0x80+c % 64)]⟩
  else ⟨#[UInt8.ofNat (0xF0+c / 262144),UInt8.ofNat (0x80+c / 4096 % 64),UInt8.ofNat (0x80+c / 64 % 64),UInt8.ofNat (0x80+c % 64)]⟩:=by
 unfold Utf8.encode
 simp only [pt_valid c h,if_true,Int.toNat_natCast]
theorem enc_size (c:Nat) (h:pt c):(Utf8.encode (c:Int)).size=if c<128 then 1 else if c<2048 then 2 else if c<65536 then 3 else 4:=by
 rw [enc_eq c h]
 repeat' split
 all_goals rfl
theorem enc_b0 (c:Nat) (h:pt c):by8 (Utf8.encode (c:Int)) 0=if c<128 then c else if c<2048 then 192+c / 64 else if c<65536 then 224+c / 4096 else 240+c / 262144:=by
 rw [enc_eq c h]
 unfold pt at h
 repeat' split
 all_goals (show (UInt8.ofNat _).toNat=_;simp;omega)
theorem enc_pos (c:Nat) (h:pt c):0<(Utf8.encode (c:Int)).size:=by
 rw [enc_size c h];repeat' split
 all_goals omega
theorem dp_pt (s:ByteArray) (i:Nat):pt (dp s i):=by
 unfold dp pt
 rw [decode_eq]
 have hv1:=vv_lt (ob s (i+1))
 have hv2:=vv_lt (ob s (i+2))
 rcases D_ways (by8 s i) (ob s (i+1)) (ob s (i+2)) (ob s (i+3)) with h1|⟨h1,h2⟩|⟨_,_,h2,_⟩|⟨_,_,_,h2,_⟩|⟨_,_,_,_,h2⟩
 ·rw [h1];simp
 ·rw [h2];left;show by8 s i<_;omega
 ·obtain ⟨q1,q2,q3⟩:=(D_w2 _ _ _ _).1 h2
  rw [D_v2 _ _ _ _ q1 q2 q3];left;show by8 s i % 32*64+_<_;omega
 ·obtain ⟨q1,q2,q3,q4,q5⟩:=(D_w3 _ _ _ _).1 h2
  rw [D_v3 _ _ _ _ q1 q2 q3 q4 q5]
  show (by8 s i % 16*4096+_+_<_∨_≤by8 s i % 16*4096+_+_∧by8 s i % 16*4096+_+_≤_)
  omega
 ·obtain ⟨q1,q2,q3,q4,q5,q6⟩:=(D_w4 _ _ _ _).1 h2
  rw [D_v4 _ _ _ _ q1 q2 q3 q4 q5 q6]
  right
  exact ⟨Nat.le_trans (by omega) q5,q6⟩
theorem by8_ext' (s:ByteArray) (a b i:Nat) (h:a+i<b):by8 (s.extract a b) i=by8 s (a+i):=by
 unfold by8
 rw [get_ext,if_pos h]
end Go.Proofs.YtkigadnkclkopaaGreatDoor.Lx
namespace Go.Proofs.YtkigadnkclkopaaGreatDoor.Lx
open Go.RowKit
def ltr (p:Int):Prop:=(65≤p∧p≤90)∨(97≤p∧p≤122)∨(192≤p∧p≤214)∨(216≤p∧p≤246)∨(248≤p∧p≤591)∨(913≤p∧p≤929)∨(931≤p∧p≤974)∨(1024≤p∧p≤1119)∨(1488≤p∧p≤1514)∨(1568≤p∧p≤1610)∨(2308≤p∧p≤2361)∨(12353≤p∧p≤12438)∨(12449≤p∧p≤12538)∨(19968≤p∧p≤40959)∨(44032≤p∧p≤55203)∨(66560≤p∧p≤66639)∨(131072≤p∧p≤196607)
def mrk (p:Int):Prop:=(48≤p∧p≤57)∨(95≤p∧p≤95)∨(768≤p∧p≤879)
instance (p:Int):Decidable (ltr p):=by unfold ltr;infer_instance
instance (p:Int):Decidable (mrk p):=by unfold mrk;infer_instance
def us (p:Int):Int:=if ltr p then 2 else if mrk p then 1 else 0
def lt' (p:Int):Bool:=decide (ltr p)
def pr' (p:Int):Bool:=lt' p || decide (mrk p)
theorem us_two {p:Int}(h:ltr p):us p=2:=by unfold us;rw [if_pos h]
theorem us_one {p:Int}(h:mrk p):us p=1:=by
 unfold us
 rw [if_neg (by unfold mrk at h;unfold ltr;omega),if_pos h]
theorem us_no {p:Int}(h:¬ltr p) (h2:¬mrk p):us p=0:=by unfold us;rw [if_neg h,if_neg h2]
theorem us_lt (p:Int):(us p == 2)=lt' p:=by
 unfold us lt'
 by_cases h:ltr p
 ·rw [if_pos h,decide_eq_true h];rfl
 ·rw [if_neg h,decide_eq_false h];split <;> rfl
theorem us_pr (p:Int):(us p != 0)=pr' p:=by
 unfold us pr' lt'
 by_cases h:ltr p
 ·rw [if_pos h,decide_eq_true h];rfl
 ·rw [if_neg h,decide_eq_false h]
  by_cases h2:mrk p
  ·rw [if_pos h2,decide_eq_true h2];rfl
  ·rw [if_neg h2,decide_eq_false h2];rfl
theorem ctab_hit (i:Nat) (p:Int) (hi:i<20) (h0:clo i≤p) (h1:p≤chi i):cus i=us p:=by
 rcases i with _|_|_|_|_|_|_|_|_|_|_|_|_|_|_|_|_|_|_|_|i
 all_goals simp [clo,chi,cus,ctabL,List.getD] at h0 h1 ⊢
 all_goals first|exact (us_two (by unfold ltr;omega)).symm|exact (us_one (by unfold mrk;omega)).symm|omega
theorem ctab_all (p:Int) (h:∀k,k<20→p<clo k∨chi k<p):us p=0:=by
 have a0:=h 0 (by omega);have a1:=h 1 (by omega);have a2:=h 2 (by omega);have a3:=h 3 (by omega);have a4:=h 4 (by omega);have a5:=h 5 (by omega);have a6:=h 6 (by omega);have a7:=h 7 (by omega);have a8:=h 8 (by omega);have a9:=h 9 (by omega);have a10:=h 10 (by omega);have a11:=h 11 (by omega);have a12:=h 12 (by omega);have a13:=h 13 (by omega);have a14:=h 14 (by omega);have a15:=h 15 (by omega);have a16:=h 16 (by omega);have a17:=h 17 (by omega);have a18:=h 18 (by omega);have a19:=h 19 (by omega)
 simp only [clo,chi,ctabL,List.getD,List.getElem?_cons_zero,List.getElem?_cons_succ,Option.getD_some] at a0 a1 a2 a3 a4 a5 a6 a7 a8 a9 a10 a11 a12 a13 a14 a15 a16 a17 a18 a19
 refine us_no ?_ ?_
 ·unfold ltr;omega
 ·unfold mrk;omega
theorem ctab_up (i k:Nat) (hk:k<20) (h:i≤k):clo i≤clo k:=by
 have:∀k,k<20→∀i,i<20→i≤k→clo i≤clo k:=by decide +kernel
 exact this k hk i (by omega) h
theorem ctab_miss (i:Nat) (p:Int) (h:∀k,k<i→chi k<p) (h2:i<20→p<clo i):us p=0:=by
 refine ctab_all p fun k hk=>?_
 by_cases hki:k<i
 ·exact .inr (h k hki)
 ·have:=h2 (by omega)
  have:=ctab_up i k hk (by omega)
  omega
theorem kret_i64 {a b:Int}(h:a=b):Ending.returned (.int .i64 a)=.returned (.int .i64 b):=by rw [h]
theorem kret_b {a b:Bool}(h:a=b):Ending.returned (.bool a)=.returned (.bool b):=by rw [h]
set_option maxHeartbeats 400000 in
theorem use_any (p:Int) (w:World) (hT:CTab w) :
  Calls Tryz.prog 86 #[.int .i64 p] w fun e w'=>e=.returned (.int .i64 (us p))∧w'=w:=by
 go_enter Tryz.func86,Tryz.ntmps86
 go_wp2_with fail
 go_loopw [4] (fun i wr=>wr=w∧∃k:Nat,k≤20∧i=.int .i64 k∧∀j,j<k→chi j<p) (fun i _=>20-(intOf i).toNat)
 case atStart=>exact ⟨rfl,0,by omega,rfl,fun j hj=>by omega⟩
 case round=>
  obtain ⟨rfl,k,hk,rfl,hall⟩:=hrel
  by_cases h16:k<20
  ·obtain ⟨c0,c1,c2⟩:=hT k h16
   have HA:Hid (∀j,j<k→chi j<p):=hall
   have HH:Hid (clo k≤p→p≤chi k→cus k=us p):=ctab_hit k p h16
   have HM:Hid (p<clo k→us p=0):=fun h=>ctab_miss k p hall (fun _=>h)
   have HN:Hid (chi k<p→∀j,j<k+1→chi j<p):=fun h j hj=>by
    by_cases e:j=k
    ·subst e;exact h
    ·exact hall j (by omega)
   clear hall hT
   generalize clo k=l at *
   generalize cus k=c at *
   generalize chi k=u at *
   by_cases h1:p<l
   ·go_wp2_with fail
    go_ret
    exact ⟨kret_i64 (HM.out h1).symm,rfl⟩
   ·by_cases h2:p≤u
    ·go_wp2_with fail
     go_ret
     exact ⟨kret_i64 (HH.out (by omega) h2),rfl⟩
    ·go_wp2_with fail
     exact ⟨⟨trivial,k+1,by omega,by go_num,HN.out (by omega)⟩,by simp [intOf];omega⟩
  ·have HM:Hid (us p=0):=ctab_miss k p hall (fun h=>absurd h h16)
   clear hall hT
   go_wp2_with fail
   go_ret
   exact ⟨kret_i64 HM.out.symm,rfl⟩
theorem letter_any (p:Int) (w:World) (hT:CTab w) :
  Calls Tryz.prog 46 #[.int .i64 p] w fun e w'=>e=.returned (.bool (lt' p))∧w'=w:=by
 go_enter Tryz.func46,Tryz.ntmps46
 go_wp2_with fail
 refine (use_any p w hT).mono ?_
 rintro e w' ⟨rfl,rfl⟩
 have HU:Hid ((us p == 2)=lt' p):=us_lt p
 generalize us p=u at *
 go_wp2_with fail
 go_ret
 exact ⟨kret_b HU.out,rfl⟩
theorem part_any (p:Int) (w:World) (hT:CTab w) :
  Calls Tryz.prog 57 #[.int .i64 p] w fun e w'=>e=.returned (.bool (pr' p))∧w'=w:=by
 go_enter Tryz.func57,Tryz.ntmps57
 go_wp2_with fail
 refine (use_any p w hT).mono ?_
 rintro e w' ⟨rfl,rfl⟩
 have HU:Hid ((us p != 0)=pr' p):=us_pr p
 generalize us p=u at *
 go_wp2_with fail
 go_ret
 exact ⟨kret_b HU.out,rfl⟩
end Go.Proofs.YtkigadnkclkopaaGreatDoor.Lx
namespace Go.Proofs.YtkigadnkclkopaaGreatDoor.Lx
open Go.RowKit Go.Deep
theorem below_dn {b:Nat}{w v:World}(h:Below b w v):∀m,Below b w (v.drewN m)
 |0=>h
 |m+1=>(below_dn h m).drew
def ky (s:ByteArray):Bool:=wordL.any fun x=>decide (s=x)
theorem ky_miss (s:ByteArray) (h:∀j,j<24→s≠wordL.getD j ByteArray.empty):ky s=false:=by
 unfold ky
 rw [List.any_eq_false]
 intro x hm hx
 obtain ⟨j,hj,e⟩:=List.mem_iff_getElem.1 hm
 have hj':j<24:=hj
 apply h j hj'
 rw [List.getD,List.getElem?_eq_getElem hj]
 exact (of_decide_eq_true hx).trans e.symm
theorem ky_hit (s:ByteArray) (j:Nat) (hj:j<24) (h:s=wordL.getD j ByteArray.empty):ky s=true:=by
 unfold ky
 rw [List.any_eq_true]
 refine ⟨wordL[j]'hj,List.getElem_mem _,decide_eq_true ?_⟩
 rw [h,List.getD,List.getElem?_eq_getElem (show j<wordL.length from hj)]
 rfl
theorem tl_true {s x:ByteArray}(h:s=x):(s.toList == x.toList)=true:=by subst h;simp
theorem tl_data (s:ByteArray):s.toList=s.data.toList:=ByteArray.toList_eq s
theorem tl_false {s x:ByteArray}(h:s≠x):(s.toList == x.toList)=false:=by
 rw [beq_eq_false_iff_ne,tl_data,tl_data]
 intro e
 apply h
 have:=Array.toList_inj.1 e
 cases s;cases x;simp_all
set_option maxHeartbeats 400000 in
theorem isKey_any (s:ByteArray) (w:World) (hT:WTab w) :
  Calls Tryz.prog 102 #[.string s] w fun e w'=>e=.returned (.bool (ky s))∧w'=w:=by
 go_enter Tryz.func102,Tryz.ntmps102
 go_wp2_with fail
 go_loopw [4] (fun i wr=>wr=w∧∃k:Nat,k≤24∧i=.int .i64 k∧∀j,j<k→s≠wordL.getD j ByteArray.empty) (fun i _=>24-(intOf i).toNat)
 case atStart=>exact ⟨rfl,0,by omega,rfl,fun j hj=>by omega⟩
 case round=>
  obtain ⟨rfl,k,hk,rfl,hall⟩:=hrel
  by_cases h24:k<24
  ·have c0:=hT k h24
   have HH:Hid (s=wordL.getD k ByteArray.empty→ky s=true):=ky_hit s k h24
   have HN:Hid (s≠wordL.getD k ByteArray.empty→∀j,j<k+1→s≠wordL.getD j ByteArray.empty):=fun h j hj=>by
    by_cases e:j=k
    ·subst e;exact h
    ·exact hall j (by omega)
   clear hall hT
   generalize wordL.getD k ByteArray.empty=x at *
   by_cases e:s=x
   ·have e1:=tl_true e
    have HE:Hid (s=x):=e
    clear e
    go_wp2_with fail
    go_ret
    exact ⟨kret_b (HH.out HE.out).symm,rfl⟩
   ·have e1:=tl_false e
    have HE:Hid (s≠x):=e
    clear e
    go_wp2_with fail
    exact ⟨⟨trivial,k+1,by omega,by go_num,HN.out HE.out⟩,by simp [intOf];omega⟩
  ·have HM:Hid (ky s=false):=ky_miss s (fun j hj=>hall j (by omega))
   clear hall hT
   go_wp2_with fail
   go_ret
   exact ⟨kret_b HM.out.symm,rfl⟩
def pre (s:ByteArray) (a:Nat) (t:ByteArray):Bool:=decide (a+t.size≤s.size∧s.extract a (a+t.size)=t)
def sg (s:ByteArray) (a:Nat):ByteArray:=(signL.find? (pre s a)).getD ByteArray.empty
theorem find_hit (f:ByteArray→Bool):∀(l:List ByteArray) (k:Nat),k<l.length→(∀j,j<k→f (l.getD j ByteArray.empty)=false)→f (l.getD k ByteArray.empty)=true→l.find? f=some (l.getD k ByteArray.empty)
 |[],k,h,_,_=>by simp at h
 |x :: r,0,_,_,h=>by
  have h':f x=true:=h
  rw [List.find?_cons_of_pos h'];rfl
 |x :: r,k+1,hk,hj,h=>by
  have h0:f x=false:=hj 0 (by omega)
  rw [List.find?_cons_of_neg (by rw [h0];simp)]
  exact find_hit f r k (by simpa using hk) (fun j hj'=>hj (j+1) (by omega)) h
theorem find_miss (f:ByteArray→Bool) (l:List ByteArray) (h:∀j,j<l.length→f (l.getD j ByteArray.empty)=false):l.find? f=none:=by
 rw [List.find?_eq_none]
 intro x hx
 obtain ⟨j,hj,e⟩:=List.mem_iff_getElem.1 hx
 have:=h j hj
 rw [List.getD,List.getElem?_eq_getElem hj] at this
 subst e
 simpa using this
theorem sg_hit (s:ByteArray) (a k:Nat) (hk:k<21) (h:∀j,j<k→pre s a (signL.getD j ByteArray.empty)=false) (h1:pre s a (signL.getD k ByteArray.empty)=true):sg s a=signL.getD k ByteArray.empty:=by
 unfold sg
 rw [find_hit _ signL k hk h h1];rfl
theorem sg_miss (s:ByteArray) (a:Nat) (h:∀j,j<21→pre s a (signL.getD j ByteArray.empty)=false):sg s a=ByteArray.empty:=by
 unfold sg
 rw [find_miss _ signL h];rfl
theorem ext_tail (s:ByteArray) (a n:Nat) (h:a+n≤s.size):(s.extract a s.size).extract 0 n=s.extract a (a+n):=by
 refine by8_ext _ _ ?_ ?_
 ·rw [size_ext _ 0 n (by rw [size_ext s a _ (Nat.le_refl _)];omega),size_ext s a _ h];omega
 ·intro i hi
  rw [size_ext _ 0 n (by rw [size_ext s a _ (Nat.le_refl _)];omega)] at hi
  rw [by8_ext' _ 0 n i (by omega),by8_ext' s a _ _ (by omega),by8_ext' s a _ _ (by omega),Nat.zero_add]
set_option maxHeartbeats 400000 in
theorem hp_lite (s t:ByteArray) (w:World) :
  Calls Tryz.prog 92 #[.string s,.string t] w fun e w'=>e=.returned (.bool (pre s 0 t))∧w'=w:=by
 by_cases h1:t.size≤s.size
 ·have h1':decide ((s.size:Int)≥(t.size:Int))=true:=by simpa using h1
  have h2:(0:Int)≤(t.size:Int):=by omega
  have h3:(t.size:Int)≤(s.size:Int):=by omega
  by_cases h4:s.extract 0 t.size=t
  ·have e1:=tl_true h4
   have HB:Hid (pre s 0 t=true):=by
    unfold pre
    exact decide_eq_true ⟨by omega,by rw [Nat.zero_add];exact h4⟩
   clear h4
   go_enter Tryz.func92,Tryz.ntmps92
   go_wp2_with fail
   go_ret
   exact ⟨kret_b HB.out.symm,rfl⟩
  ·have e1:=tl_false h4
   have HB:Hid (pre s 0 t=false):=by
    unfold pre
    refine decide_eq_false fun h=>h4 ?_
    have:=h.2
    rwa [Nat.zero_add] at this
   clear h4
   go_enter Tryz.func92,Tryz.ntmps92
   go_wp2_with fail
   go_ret
   exact ⟨kret_b HB.out.symm,rfl⟩
 ·have h1':decide ((s.size:Int)≥(t.size:Int))=false:=by simp;omega
  have HB:Hid (pre s 0 t=false):=by
   unfold pre
   exact decide_eq_false fun h=>h1 (by have:=h.1;omega)
  go_enter Tryz.func92,Tryz.ntmps92
  go_wp2_with fail
  go_ret
  exact ⟨kret_b HB.out.symm,rfl⟩
theorem hp_any (s t:ByteArray) (w:World) :
  Calls Tryz.prog 50 #[.string s,.string t] w fun e w'=>e=.returned (.bool (pre s 0 t))∧w'=w:=by
 go_enter Tryz.func50,Tryz.ntmps50
 go_wp2_with fail
 refine (hp_lite s t w).mono ?_
 rintro e w' ⟨rfl,rfl⟩
 generalize hb:pre s 0 t=b
 have HB:Hid (pre s 0 t=b):=hb
 clear hb
 go_wp2_with fail
 go_ret
 exact ⟨kret_b HB.out.symm,rfl⟩
theorem pre_tail (s t:ByteArray) (a:Nat) (ha:a≤s.size):pre (s.extract a s.size) 0 t=pre s a t:=by
 unfold pre
 rw [size_ext s a _ (Nat.le_refl _)]
 by_cases h:a+t.size≤s.size
 ·rw [Nat.zero_add,ext_tail s a t.size h]
  exact decide_eq_decide.2 ⟨fun ⟨_,h2⟩=>⟨h,h2⟩,fun ⟨_,h2⟩=>⟨by omega,h2⟩⟩
 ·rw [decide_eq_false (fun h2=>h (by have:=h2.1;omega)),decide_eq_false (fun h2=>h h2.1)]
set_option maxHeartbeats 1000000 in
theorem sign_in (s:ByteArray) (a:Nat) (w:World) (hT:STab w) (ha:a<s.size) :
  Calls Tryz.prog 93 #[.string s,.int .i64 a] w fun e w'=>e=.returned (.string (sg s a))∧Below w.heap.size w w':=by
 have h1:decide ((a:Int)<0)=false:=by simp
 have h2:decide ((a:Int)≥(s.size:Int))=false:=by simp;omega
 have h3:(0:Int)≤(a:Int):=by omega
 have h4:(a:Int)≤(s.size:Int):=by omega
 go_enter Tryz.func93,Tryz.ntmps93
 go_wp2_with fail
 go_loopw [14] (fun i wr=>∃k:Nat,k≤21∧i=.int .i64 k∧(∀j,j<k→pre s a (signL.getD j ByteArray.empty)=false)∧Below w.heap.size w wr) (fun i _=>21-(intOf i).toNat)
 case atStart=>exact ⟨0,by omega,rfl,fun j hj=>by omega,Below.refl _ _⟩
 case round=>
  obtain ⟨k,hk,rfl,hall,hb⟩:=hrel
  by_cases h21:k<21
  ·have c0:=(hT.below hb) k h21
   have i1:(0:Int)≤(k:Int):=by omega
   have i2:(k:Int)<21:=by omega
   have HH:Hid (pre s a (signL.getD k ByteArray.empty)=true→sg s a=signL.getD k ByteArray.empty):=sg_hit s a k h21 hall
   have HN:Hid (pre s a (signL.getD k ByteArray.empty)=false→∀j,j<k+1→pre s a (signL.getD j ByteArray.empty)=false):=fun h j hj=>by
    by_cases e:j=k
    ·subst e;exact h
    ·exact hall j (by omega)
   clear hall hT
   generalize signL.getD k ByteArray.empty=x at *
   have HC:Hid (∀W,Calls Tryz.prog 50 #[.string (s.extract a s.size),.string x] W fun e w'=>e=.returned (.bool (pre s a x))∧w'=W):=fun W=>by
    rw [←pre_tail s x a (by omega)];exact hp_any _ _ W
   cases hp:pre s a x
   ·rw [hp] at HC
    have HP:Hid (pre s a x=false):=hp
    clear hp HH
    go_wp2_with fail
    go_quiet ((go_at_call 50;exact Calls.quiet_of_same (HC.out _)))
    go_wp2_with fail
    exact ⟨⟨k+1,by omega,by go_num,HN.out HP.out,below_dn hb _⟩,by simp [intOf];omega⟩
   ·rw [hp] at HC
    have HP:Hid (pre s a x=true):=hp
    clear hp HN
    go_wp2_with fail
    go_quiet ((go_at_call 50;exact Calls.quiet_of_same (HC.out _)))
    go_wp2_with fail
    go_ret
    exact ⟨by rw [HH.out HP.out];rfl,below_dn hb _⟩
  ·have HM:Hid (sg s a=ByteArray.empty):=sg_miss s a (fun j hj=>hall j (by omega))
   clear hall hT
   go_wp2_with fail
   go_ret
   exact ⟨by rw [HM.out];rfl,hb⟩
end Go.Proofs.YtkigadnkclkopaaGreatDoor.Lx
namespace Go.Proofs.YtkigadnkclkopaaGreatDoor.Lx
open Go.RowKit
theorem pr_of_lt {p:Int}(h:lt' p=true):pr' p=true:=by unfold pr';rw [h];rfl
end Go.Proofs.YtkigadnkclkopaaGreatDoor.Lx
namespace Go.Proofs.YtkigadnkclkopaaGreatDoor.Lx
open Go.RowKit Go.Deep
theorem pre_in {s t:ByteArray}{a:Nat}(h:a+t.size≤s.size):pre s a t=decide (s.extract a (a+t.size)=t):=by
 unfold pre
 exact decide_eq_decide.2 ⟨fun h2=>h2.2,fun h2=>⟨h,h2⟩⟩
end Go.Proofs.YtkigadnkclkopaaGreatDoor.Lx
