import Derived.Test.YthfjlkfeeglfmaaGreatDoorM27
set_option linter.all false
set_option maxHeartbeats 2000000
namespace Go.Proofs.YthfjlkfeeglfmaaGreatDoor
open Go.Proofs.Tryz
open Go.RowKit
def Il (n:Nat) (hdeclaration:PD .declaration 233 n) (hbodyA:∀k,k<n->bz 234 fT 45 k):bz 203 ph 40 n:=by
 intro X r d W h hr hm;have H0:=aW h;have HM:=aW hm;have az:=mkfn;clear h hm;go_enter func203,ntmps203;have aa:=aW hdeclaration;(go_wp2_with fail);refine(aa.out X _ _ _ H0.out).mono ?_;rintro e w1⟨u1,v1,rfl,p1,ab⟩;have P1:=aW p1;have H1:=show Hid _ from H0.out.below ab
 clear p1 ab;(go_wp2_with fail)
 go_loopw [2,3] (λu v wr=>∃dk,Hid (SD X r dk wr)/\Hid (Lp (aD X.l) (.fn .declaration) d dk)/\Hid (IM X .declaration n dk u v)) (λ_ _ wr=>mW X wr)
 case atStart=>exact⟨_,H1.out,.refl,P1.out⟩
 case round=>
  obtain⟨e1,H,G,Q⟩:=hrel;clear P1
  rcases Q.out with⟨nd,ff,M5,ag,rfl,rfl,O,ad,af,M,ae⟩|⟨rfl,rfl,M⟩
  ·have au:=tt ff X.g;have J:=aW M;have HN:=aW (aM H.out (by omega) (by omega) (by have m0:=HM.out;have ah:=G.out.le;omega) af O ad ae);have ap:=aW λd' (h1:Ib (aD X.l) ag e1 d') (h2:d'.e=0)=>As J.out h1 H.out.e0 h2
   clear af ae O M ad Q;(go_wp2_with fail);refine bM c0 (HN.out) (λ_ _ D I Z B=>?_) λd2 _ C2 I2 H2=>?_
   ·(go_wp2_with fail);exact⟨rfl,_,((ck c0 (G.out.go _ (aZ J.out I (aN Z.out)))).dead Z.out _),o3 Z B⟩
   (go_wp2_with fail);refine(aa.out X _ _ _ H2.out).mono ?_;rintro e w3⟨u3,v3,rfl,p3,ac⟩;have P3:=aW p3;have H3:=show Hid _ from H2.out.below ac
   clear p3 ac;(go_wp2_with fail);exact⟨⟨_,H3.out.up (RU _),G.out.step J.out I2.out,P3.out⟩,iu H.out H3.out (by have m0:=HM.out;have ah:=G.out.le;have m2:=bA I2.out;have mx:=ap.out _ I2.out H2.out.e0;omega)⟩
  ·have au:=pA;have J:=aW M;clear M Q;have ai:=ck c0 (G.out.fin J.out);(go_wp2_with fail);refine bM ai (bN H.out (by omega) (by kernel_rfl)) (λ_ _ D I Z B=>?_) λar _ aj aq S=>?_
   ·(go_wp2_with fail);exact⟨rfl,_,(D.dead Z.out _),o3 Z B⟩
   (go_wp2_with fail);refine bM aj (aM S.out (by omega) (by omega) (ge _) (hbodyA (ms (aD X.l) ar) (by have m0:=HM.out;have ah:=G.out.le;have ba:=am aB aq.out H.out.e0 S.out.e0;omega)) jw rfl (λd' hh=>aO (m:=.body) rfl hh)) (λ_ _ D I Z B=>?_) λax _ ak av an=>?_
   ·(go_wp2_with fail);exact⟨rfl,_,(D.dead Z.out _),o3 Z B⟩
   (go_wp2_with fail);refine bM ak (bN an.out (by omega) (by kernel_rfl)) (λ_ _ D I Z B=>?_) λay _ al aw Y=>?_
   ·(go_wp2_with fail);exact⟨rfl,_,(D.dead Z.out _),o3 Z B⟩
   (go_wp2_with fail);go_end0;exact⟨_,al.nil,.inl ⟨Y.out.e0,rfl,Y.out⟩⟩
def rL (n:Nat) (htypedA:∀k,k<n->bz 280 gA 90 k):bz 266 fj 90 n:=by
 intro X r d W h hr J;have u:=aW h;have Y:=aW J;have aa:=mkfn;clear h J;go_enter func266,ntmps266;(go_wp2_with fail);refine bM c0 (bN u.out (by omega) (by kernel_rfl)) (λ_ _ D I Z B=>?_) λd1 _ M I1 G=>?_
 ·(go_wp2_with fail);exact⟨rfl,_,(D.dead Z.out _),o3 Z B⟩
 (go_wp2_with fail);refine bM M (RJ (m:=.typed) rfl ((htypedA (ms (aD X.l) d1) (by have m0:=Y.out;have m1:=am aB I1.out u.out.e0 G.out.e0;omega)) X _ _ _ G.out (by omega) (ge _))) (λ_ _ D I Z B=>?_) λd2 _ O I2 S=>?_
 ·(go_wp2_with fail);exact⟨rfl,_,(D.dead Z.out _),o3 Z B⟩
 (go_wp2_with fail);refine bM O (bh S.out (by omega) (by kernel_rfl)) (λ_ _ D I Z B=>?_) λd3 _ Q I3 H=>?_
 ·(go_wp2_with fail);exact⟨rfl,_,(D.dead Z.out _),o3 Z B⟩
 (go_wp2_with fail);go_end0;exact⟨_,Q.nil,.inl ⟨H.out.e0,rfl,H.out⟩⟩
def xg (n:Nat) (hexprA:∀k,k<n->bz 281 cO 50 k):bz 267 fQ 90 n:=by
 intro X r d W h hr O;have H:=aW h;have HM:=aW O;have aa:=mkfn;clear h O;go_enter func267,ntmps267;(go_wp2_with fail);refine bM c0 (bN H.out (by omega) (by kernel_rfl)) (λ_ _ D I Z B=>?_) λd1 _ Q I1 u=>?_
 ·(go_wp2_with fail);exact⟨rfl,_,(D.dead Z.out _),o3 Z B⟩
 (go_wp2_with fail);refine bM Q (fh u.out (by omega)) (λ_ _ D I Z B=>?_) λd2 _ S I2 G=>?_
 ·(go_wp2_with fail);exact⟨rfl,_,(D.dead Z.out _),o3 Z B⟩
 (go_wp2_with fail);refine bM S (bh G.out (by omega) (by kernel_rfl)) (λ_ _ D I Z B=>?_) λd3 _ Y I3 J=>?_
 ·(go_wp2_with fail);exact⟨rfl,_,(D.dead Z.out _),o3 Z B⟩
 (go_wp2_with fail);refine bM Y (aM J.out (by omega) (by omega) (ge _) (hexprA (ms (aD X.l) d3) (by have m0:=HM.out;have m1:=am aB I1.out H.out.e0 u.out.e0;have m2:=am cE I2.out u.out.e0 G.out.e0;have m3:=am aB I3.out G.out.e0 J.out.e0;omega)) cU rfl (λd' hh=>aO (m:=.expr) rfl hh)) (λ_ _ D I Z B=>?_) λd4 _ C4 I4 H4=>?_
 ·(go_wp2_with fail);exact⟨rfl,_,(D.dead Z.out _),o3 Z B⟩
 (go_wp2_with fail);refine bM C4 (bh H4.out (by omega) (by kernel_rfl)) (λ_ _ D I Z B=>?_) λd5 _ C5 I5 M=>?_
 ·(go_wp2_with fail);exact⟨rfl,_,(D.dead Z.out _),o3 Z B⟩
 (go_wp2_with fail);go_end0;exact⟨_,C5.nil,.inl ⟨M.out.e0,rfl,M.out⟩⟩
def sG (n:Nat) (hparamsA:∀k,k<n->bz 282 lR 90 k) (hkindA:∀k,k<n->PC .kind 283 k) (hblockA:∀k,k<n->bz 203 ph 40 k):bz 268 fm 90 n:=by
 intro X r d W h hr hm;have S:=aW h;have HM:=aW hm;have cz:=mkfn;clear h hm;go_enter func268,ntmps268;(go_wp2_with fail);refine bM c0 (bN S.out (by omega) (by kernel_rfl)) (λ_ _ D I Z B=>?_) λd1 _ C1 I1 u=>?_
 ·(go_wp2_with fail);exact⟨rfl,_,(D.dead Z.out _),o3 Z B⟩
 (go_wp2_with fail);refine bM C1 (fh u.out (by omega)) (λ_ _ D I Z B=>?_) λd2 _ C2 I2 H=>?_
 ·(go_wp2_with fail);exact⟨rfl,_,(D.dead Z.out _),o3 Z B⟩
 (go_wp2_with fail);refine(lG H.out.sv (fd _ _)).mono ?_;rintro e w3⟨rfl,ap⟩;have H3:=show Hid _ from H.out.below ap
 clear ap;obtain⟨a3,ae⟩:∃a,kt 6 (nx X (ps X.l d2.i))=a:=⟨_,rfl⟩;rw[ae];have A3:=aW ae;clear ae
 by_cases Q:(a3.toList==[40])=true
 ·have ad:=show Hid _ from Oq H3.out A3.out Q
  (go_wp2_with fail);refine bM C2 (aM H3.out (by omega) (by omega) (ge _) (hparamsA (ms (aD X.l) d2) (by have m0:=HM.out;have m1:=am aB I1.out S.out.e0 u.out.e0;have m2:=am cE I2.out u.out.e0 H.out.e0;omega)) Dt rfl (λd' J=>bI ad.out (aO (m:=.params) rfl J))) (λ_ _ D I Z B=>?_) λd4 _ C4 I4 H4=>?_
  ·(go_wp2_with fail);exact⟨rfl,_,(D.dead Z.out _),o3 Z B⟩
  (go_wp2_with fail);refine zL (bC H4.out (by omega) [⟨#[58]⟩] (by simp) (by kernel_rfl) rfl rfl) (λ_ _ Q5 I Z B=>?_) (λd5 _ Q5 I5 H5=>?_) λ_ Q5 Y=>?_
  ·(go_wp2_with fail);exact⟨rfl,_,((ck C4 (bI (ay Q5.out) (aR (by exact((ck c0 I).dead Z.out _))))).dead Z.out _),o3 Z B⟩
  ·have C5:=ck c0 I5.out;(go_wp2_with fail);refine((hkindA (ms (aD X.l) d5) (by have m0:=HM.out;have m1:=am aB I1.out S.out.e0 u.out.e0;have m2:=am cE I2.out u.out.e0 H.out.e0;have m4:=bA I4.out;have m5:=am aB I5.out H4.out.e0 H5.out.e0;omega)) X _ _ _ H5.out).mono ?_;rintro e w6⟨u6,v6,rfl,p6,aq⟩;have P6:=aW p6;have H6:=show Hid _ from H5.out.below aq
   clear p6 aq;(go_wp2_with fail);refine bM C5 (dd H6.out (by omega) (ge _) P6.out) (λ_ _ D I Z B=>?_) λd7 _ C7 I7 H7=>?_
   ·(go_wp2_with fail);exact⟨rfl,_,((ck C4 (bI (ay Q5.out) (aR (by exact(D.dead Z.out _))))).dead Z.out _),o3 Z B⟩
   have C8:=ck C4 (bI (ay Q5.out) (aR (r:=[.wd 6 [⟨#[58]⟩],.mt .kind]) C7.nil));(go_wp2_with fail);refine bM C8 (bh H7.out (by omega) (by kernel_rfl)) (λ_ _ D I Z B=>?_) λd9 _ C9 I9 H9=>?_
   ·(go_wp2_with fail);exact⟨rfl,_,(D.dead Z.out _),o3 Z B⟩
   (go_wp2_with fail);refine bM C9 (aM H9.out (by omega) (by omega) (ge _) (hblockA (ms (aD X.l) d9) (by have m0:=HM.out;have m1:=am aB I1.out S.out.e0 u.out.e0;have m2:=am cE I2.out u.out.e0 H.out.e0;have m4:=bA I4.out;have m5:=am aB I5.out H4.out.e0 H5.out.e0;have m7:=bA I7.out;have m9:=am aB I9.out H7.out.e0 H9.out.e0;omega)) iH rfl (λd' J=>aO (m:=.block) rfl J)) (λ_ _ D I Z B=>?_) λcp _ au cg bn=>?_
   ·(go_wp2_with fail);exact⟨rfl,_,(D.dead Z.out _),o3 Z B⟩
   (go_wp2_with fail);refine bM au (bh bn.out (by omega) (by kernel_rfl)) (λ_ _ D I Z B=>?_) λcq _ av ch af=>?_
   ·(go_wp2_with fail);exact⟨rfl,_,(D.dead Z.out _),o3 Z B⟩
   (go_wp2_with fail);go_end0;exact⟨_,av.nil,.inl ⟨af.out.e0,rfl,af.out⟩⟩
  have aw:=ck C4 (dR (bT (r:=[.mt .kind]) Q5.out));(go_wp2_with fail);refine bM aw (bh Y.out (by omega) (by kernel_rfl)) (λ_ _ D I Z B=>?_) λca _ ax bt ag=>?_
  ·(go_wp2_with fail);exact⟨rfl,_,(D.dead Z.out _),o3 Z B⟩
  (go_wp2_with fail);refine bM ax (aM ag.out (by omega) (by omega) (ge _) (hblockA (ms (aD X.l) ca) (by have m0:=HM.out;have m1:=am aB I1.out S.out.e0 u.out.e0;have m2:=am cE I2.out u.out.e0 H.out.e0;have m4:=bA I4.out;have da:=am aB bt.out Y.out.e0 ag.out.e0;omega)) iH rfl (λd' J=>aO (m:=.block) rfl J)) (λ_ _ D I Z B=>?_) λcr _ az ci bo=>?_
  ·(go_wp2_with fail);exact⟨rfl,_,(D.dead Z.out _),o3 Z B⟩
  (go_wp2_with fail);refine bM az (bh bo.out (by omega) (by kernel_rfl)) (λ_ _ D I Z B=>?_) λct _ ba cj ah=>?_
  ·(go_wp2_with fail);exact⟨rfl,_,(D.dead Z.out _),o3 Z B⟩
  (go_wp2_with fail);go_end0;exact⟨_,ba.nil,.inl ⟨ah.out.e0,rfl,ah.out⟩⟩
 ·have ad:=show Hid _ from PO H3.out A3.out (by simpa using Q)
  have cf:(a3.toList==[40])=false:=by simpa using Q
  clear Q;have M:=ck C2 (dR ad.out);(go_wp2_with fail);refine zL (bC H3.out (by omega) [⟨#[58]⟩] (by simp) (by kernel_rfl) rfl rfl) (λ_ _ G I Z B=>?_) (λcb _ G ac O=>?_) λ_ G aa=>?_
  ·(go_wp2_with fail);exact⟨rfl,_,((ck M (bI (ay G.out) (aR (by exact((ck c0 I).dead Z.out _))))).dead Z.out _),o3 Z B⟩
  ·have bb:=ck c0 ac.out;(go_wp2_with fail);refine((hkindA (ms (aD X.l) cb) (by have m0:=HM.out;have m1:=am aB I1.out S.out.e0 u.out.e0;have m2:=am cE I2.out u.out.e0 H.out.e0;have ce:=am aB ac.out H3.out.e0 O.out.e0;omega)) X _ _ _ O.out).mono ?_;rintro e dg⟨u58,df,rfl,ar,ab⟩;have bx:=aW ar;have bp:=show Hid _ from O.out.below ab
   clear ar ab;(go_wp2_with fail);refine bM bb (dd bp.out (by omega) (ge _) bx.out) (λ_ _ D I Z B=>?_) λcu _ bc bu ai=>?_
   ·(go_wp2_with fail);exact⟨rfl,_,((ck M (bI (ay G.out) (aR (by exact(D.dead Z.out _))))).dead Z.out _),o3 Z B⟩
   have bd:=ck M (bI (ay G.out) (aR (r:=[.wd 6 [⟨#[58]⟩],.mt .kind]) bc.nil));(go_wp2_with fail);refine bM bd (bh ai.out (by omega) (by kernel_rfl)) (λ_ _ D I Z B=>?_) λcc _ be bv aj=>?_
   ·(go_wp2_with fail);exact⟨rfl,_,(D.dead Z.out _),o3 Z B⟩
   (go_wp2_with fail);refine bM be (aM aj.out (by omega) (by omega) (ge _) (hblockA (ms (aD X.l) cc) (by have m0:=HM.out;have m1:=am aB I1.out S.out.e0 u.out.e0;have m2:=am cE I2.out u.out.e0 H.out.e0;have ce:=am aB ac.out H3.out.e0 O.out.e0;have db:=bA bu.out;have dc:=am aB bv.out ai.out.e0 aj.out.e0;omega)) iH rfl (λd' J=>aO (m:=.block) rfl J)) (λ_ _ D I Z B=>?_) λcv _ bf cl bq=>?_
   ·(go_wp2_with fail);exact⟨rfl,_,(D.dead Z.out _),o3 Z B⟩
   (go_wp2_with fail);refine bM bf (bh bq.out (by omega) (by kernel_rfl)) (λ_ _ D I Z B=>?_) λcw _ bg cm ak=>?_
   ·(go_wp2_with fail);exact⟨rfl,_,(D.dead Z.out _),o3 Z B⟩
   (go_wp2_with fail);go_end0;exact⟨_,bg.nil,.inl ⟨ak.out.e0,rfl,ak.out⟩⟩
  have bi:=ck M (dR (bT (r:=[.mt .kind]) G.out));(go_wp2_with fail);refine bM bi (bh aa.out (by omega) (by kernel_rfl)) (λ_ _ D I Z B=>?_) λcd _ bj bw al=>?_
  ·(go_wp2_with fail);exact⟨rfl,_,(D.dead Z.out _),o3 Z B⟩
  (go_wp2_with fail);refine bM bj (aM al.out (by omega) (by omega) (ge _) (hblockA (ms (aD X.l) cd) (by have m0:=HM.out;have m1:=am aB I1.out S.out.e0 u.out.e0;have m2:=am cE I2.out u.out.e0 H.out.e0;have de:=am aB bw.out aa.out.e0 al.out.e0;omega)) iH rfl (λd' J=>aO (m:=.block) rfl J)) (λ_ _ D I Z B=>?_) λcx _ bk cn br=>?_
  ·(go_wp2_with fail);exact⟨rfl,_,(D.dead Z.out _),o3 Z B⟩
  (go_wp2_with fail);refine bM bk (bh br.out (by omega) (by kernel_rfl)) (λ_ _ D I Z B=>?_) λcy _ bm co an=>?_
  ·(go_wp2_with fail);exact⟨rfl,_,(D.dead Z.out _),o3 Z B⟩
  (go_wp2_with fail);go_end0;exact⟨_,bm.nil,.inl ⟨an.out.e0,rfl,an.out⟩⟩
def CK (n:Nat) (htypedA:∀k,k<n->bz 280 gA 90 k):bz 282 lR 90 n:=by
 intro X r d W h hr hm;have O:=aW h;have HM:=aW hm;have af:=mkfn;clear h hm;go_enter func282,ntmps282;(go_wp2_with fail);refine bM c0 (bh O.out (by omega) (by kernel_rfl)) (λ_ _ D I Z B=>?_) λd1 _ C1 I1 Q=>?_
 ·(go_wp2_with fail);exact⟨rfl,_,(D.dead Z.out _),o3 Z B⟩
 (go_wp2_with fail);refine bM C1 (aM Q.out (by omega) (by omega) (ge _) (ko (htypedA (ms (aD X.l) d1) (by have m0:=HM.out;have m1:=am aB I1.out O.out.e0 Q.out.e0;omega))) kQ rfl (λd' hh=>aO (m:=.param) rfl hh)) (λ_ _ D I Z B=>?_) λd2 _ S I2 H2=>?_
 ·(go_wp2_with fail);exact⟨rfl,_,(D.dead Z.out _),o3 Z B⟩
 go_wp2_with fail
 go_loopw [] (λwr=>∃dk,Hid (SD X 0 dk wr)/\Hid (Lp (aD X.l) (.row [.wd 6 [⟨#[59]⟩],.mt .param]) d2 dk)) (λwr=>mW X wr)
 case atStart=>exact⟨_,H2.out,.refl⟩
 case round=>
  obtain⟨e3,G,u⟩:=hrel;(go_wp2_with fail);refine zL (bC G.out (by omega) [⟨#[59]⟩] (by simp) (by kernel_rfl) rfl rfl) (λ_ _ H I Z B=>?_) (λd4 _ H I4 Y=>?_) λ_ H M=>?_
  ·(go_wp2_with fail);exact⟨rfl,_,((ck S (u.out.go _ (aZ (ay H.out) (aR (by exact((ck c0 I).dead Z.out _))) (aN Z.out)))).dead Z.out _),o3 Z B⟩
  ·have C4:=ck c0 I4.out;(go_wp2_with fail);refine bM C4 (aM Y.out (by omega) (by omega) (ge _) (ko (htypedA (ms (aD X.l) d4) (by have m0:=HM.out;have m1:=am aB I1.out O.out.e0 Q.out.e0;have m2:=bA I2.out;have ac:=u.out.le;have m4:=am aB I4.out G.out.e0 Y.out.e0;omega))) kQ rfl (λd' hh=>aO (m:=.param) rfl hh)) (λ_ _ D I Z B=>?_) λd5 _ C5 I5 H5=>?_
   ·(go_wp2_with fail);exact⟨rfl,_,((ck S (u.out.go _ (aZ (ay H.out) (aR (by exact(D.dead Z.out _))) (aN Z.out)))).dead Z.out _),o3 Z B⟩
   (go_wp2_with fail);exact⟨⟨_,H5.out,u.out.step (ay H.out) (aR (by exact C5.nil))⟩,iu G.out H5.out (by have m0:=HM.out;have m1:=am aB I1.out O.out.e0 Q.out.e0;have m2:=bA I2.out;have ac:=u.out.le;have m4:=am aB I4.out G.out.e0 Y.out.e0;have m5:=bA I5.out;omega)⟩
  have aa:=ck S (u.out.fin (bT H.out));(go_wp2_with fail);refine bM aa (bh M.out (by omega) (by kernel_rfl)) (λ_ _ D I Z B=>?_) λae _ ab ad J=>?_
  ·(go_wp2_with fail);exact⟨rfl,_,(D.dead Z.out _),o3 Z B⟩
  (go_wp2_with fail);go_end0;exact⟨_,ab.nil,.inl ⟨J.out.e0,rfl,J.out⟩⟩
def D9 (n:Nat) (hkindA:∀k,k<n->PC .kind 283 k):bz 280 gA 90 n:=by
 intro X r d W h hr hm;have H0:=aW h;have HM:=aW hm;have ak:=mkfn;clear h hm;go_enter func280,ntmps280;(go_wp2_with fail);refine bM c0 (fh H0.out (by omega)) (λ_ _ D I Z B=>?_) λd1 _ Y I1 H1=>?_
 ·(go_wp2_with fail);exact⟨rfl,_,(D.dead Z.out _),o3 Z B⟩
 go_wp2_with fail
 go_loopw [] (λwr=>∃dk,Hid (SD X 0 dk wr)/\Hid (Lp (aD X.l) (.row [.wd 6 [⟨#[44]⟩],.nm]) d1 dk)) (λwr=>mW X wr)
 case atStart=>exact⟨_,H1.out,.refl⟩
 case round=>
  obtain⟨e2,M,u⟩:=hrel;(go_wp2_with fail);refine zL (bC M.out (by omega) [⟨#[44]⟩] (by simp) (by kernel_rfl) rfl rfl) (λ_ _ O I Z B=>?_) (λd3 _ O I3 H3=>?_) λ_ O G=>?_
  ·(go_wp2_with fail);exact⟨rfl,_,((ck Y (u.out.go _ (aZ (ay O.out) (aR (by exact((ck c0 I).dead Z.out _))) (aN Z.out)))).dead Z.out _),o3 Z B⟩
  ·have C3:=ck c0 I3.out;(go_wp2_with fail);refine bM C3 (fh H3.out (by omega)) (λ_ _ D I Z B=>?_) λd4 _ C4 I4 H4=>?_
   ·(go_wp2_with fail);exact⟨rfl,_,((ck Y (u.out.go _ (aZ (ay O.out) (aR (by exact(D.dead Z.out _))) (aN Z.out)))).dead Z.out _),o3 Z B⟩
   (go_wp2_with fail);exact⟨⟨_,H4.out,u.out.step (ay O.out) (aR (by exact C4.nil))⟩,iu M.out H4.out (by have m0:=HM.out;have m1:=am cE I1.out H0.out.e0 H1.out.e0;have ah:=u.out.le;have m3:=am aB I3.out M.out.e0 H3.out.e0;have m4:=am cE I4.out H3.out.e0 H4.out.e0;omega)⟩
  have aa:=ck Y (u.out.fin (bT O.out));(go_wp2_with fail);refine bM aa (bh G.out (by omega) (by kernel_rfl)) (λ_ _ D I Z B=>?_) λag _ ab ae J=>?_
  ·(go_wp2_with fail);exact⟨rfl,_,(D.dead Z.out _),o3 Z B⟩
  (go_wp2_with fail);refine((hkindA (ms (aD X.l) ag) (by have m0:=HM.out;have m1:=am cE I1.out H0.out.e0 H1.out.e0;have ah:=u.out.le;have al:=am aB ae.out G.out.e0 J.out.e0;omega)) X _ _ _ J.out).mono ?_;rintro e ap⟨u27,an,rfl,S,H⟩;have af:=aW S;have ad:=show Hid _ from J.out.below H
  clear S H;(go_wp2_with fail);refine bM ab (dd ad.out (by omega) (ge _) af.out) (λ_ _ D I Z B=>?_) λaj _ ac ai Q=>?_
  ·(go_wp2_with fail);exact⟨rfl,_,(D.dead Z.out _),o3 Z B⟩
  (go_wp2_with fail);go_end0;exact⟨_,ac.nil,.inl ⟨Q.out.e0,rfl,Q.out⟩⟩
def Ix (n:Nat) (hexprA:∀k,k<n->bz 281 cO 50 k) (hkindA:∀k,k<n->PC .kind 283 k):bz 295 iE 90 n:=by
 intro X r d W h hr hm;have H:=aW h;have Y:=aW hm;have aa:=mkfn;clear h hm;go_enter func295,ntmps295;(go_wp2_with fail);refine bM c0 (bN H.out (by omega) (by kernel_rfl)) (λ_ _ D I Z B=>?_) λd1 _ C1 I1 u=>?_
 ·(go_wp2_with fail);exact⟨rfl,_,(D.dead Z.out _),o3 Z B⟩
 (go_wp2_with fail);refine bM C1 (bh u.out (by omega) (by kernel_rfl)) (λ_ _ D I Z B=>?_) λd2 _ C2 I2 J=>?_
 ·(go_wp2_with fail);exact⟨rfl,_,(D.dead Z.out _),o3 Z B⟩
 (go_wp2_with fail);refine bM C2 (aM J.out (by omega) (by omega) (ge _) (hexprA (ms (aD X.l) d2) (by have m0:=Y.out;have m1:=am aB I1.out H.out.e0 u.out.e0;have m2:=am aB I2.out u.out.e0 J.out.e0;omega)) cU rfl (λd' hh=>aO (m:=.expr) rfl hh)) (λ_ _ D I Z B=>?_) λd3 _ C3 I3 M=>?_
 ·(go_wp2_with fail);exact⟨rfl,_,(D.dead Z.out _),o3 Z B⟩
 (go_wp2_with fail);refine bM C3 (bh M.out (by omega) (by kernel_rfl)) (λ_ _ D I Z B=>?_) λd4 _ C4 I4 O=>?_
 ·(go_wp2_with fail);exact⟨rfl,_,(D.dead Z.out _),o3 Z B⟩
 (go_wp2_with fail);refine bM C4 (aM O.out (by omega) (by omega) (ge _) (hexprA (ms (aD X.l) d4) (by have m0:=Y.out;have m1:=am aB I1.out H.out.e0 u.out.e0;have m2:=am aB I2.out u.out.e0 J.out.e0;have m3:=bA I3.out;have m4:=am aB I4.out M.out.e0 O.out.e0;omega)) cU rfl (λd' hh=>aO (m:=.expr) rfl hh)) (λ_ _ D I Z B=>?_) λd5 _ C5 I5 H5=>?_
 ·(go_wp2_with fail);exact⟨rfl,_,(D.dead Z.out _),o3 Z B⟩
 (go_wp2_with fail);refine bM C5 (bh H5.out (by omega) (by kernel_rfl)) (λ_ _ D I Z B=>?_) λd6 _ C6 I6 Q=>?_
 ·(go_wp2_with fail);exact⟨rfl,_,(D.dead Z.out _),o3 Z B⟩
 (go_wp2_with fail);refine bM C6 (bN Q.out (by omega) (by kernel_rfl)) (λ_ _ D I Z B=>?_) λd7 _ C7 I7 S=>?_
 ·(go_wp2_with fail);exact⟨rfl,_,(D.dead Z.out _),o3 Z B⟩
 (go_wp2_with fail);refine((hkindA (ms (aD X.l) d7) (by have m0:=Y.out;have m1:=am aB I1.out H.out.e0 u.out.e0;have m2:=am aB I2.out u.out.e0 J.out.e0;have m3:=bA I3.out;have m4:=am aB I4.out M.out.e0 O.out.e0;have m5:=bA I5.out;have m6:=am aB I6.out H5.out.e0 Q.out.e0;have m7:=am aB I7.out Q.out.e0 S.out.e0;omega)) X _ _ _ S.out).mono ?_;rintro e w8⟨u8,v8,rfl,p8,G⟩;have P8:=aW p8;have H8:=show Hid _ from S.out.below G
 clear p8 G;(go_wp2_with fail);refine bM C7 (dd H8.out (by omega) (ge _) P8.out) (λ_ _ D I Z B=>?_) λd9 _ C9 I9 H9=>?_
 ·(go_wp2_with fail);exact⟨rfl,_,(D.dead Z.out _),o3 Z B⟩
 (go_wp2_with fail);go_end0;exact⟨_,C9.nil,.inl ⟨H9.out.e0,rfl,H9.out⟩⟩
def Cp (n:Nat) (htypedA:∀k,k<n->bz 280 gA 90 k):bz 296 gC 90 n:=by
 intro X r d W h hr hm;have O:=aW h;have HM:=aW hm;have af:=mkfn;clear h hm;go_enter func296,ntmps296;(go_wp2_with fail);refine bM c0 (bN O.out (by omega) (by kernel_rfl)) (λ_ _ D I Z B=>?_) λd1 _ C1 I1 Q=>?_
 ·(go_wp2_with fail);exact⟨rfl,_,(D.dead Z.out _),o3 Z B⟩
 (go_wp2_with fail);refine bM C1 (aM Q.out (by omega) (by omega) (ge _) (ko (htypedA (ms (aD X.l) d1) (by have m0:=HM.out;have m1:=am aB I1.out O.out.e0 Q.out.e0;omega))) kQ rfl (λd' hh=>aO (m:=.member) rfl hh)) (λ_ _ D I Z B=>?_) λd2 _ S I2 H2=>?_
 ·(go_wp2_with fail);exact⟨rfl,_,(D.dead Z.out _),o3 Z B⟩
 go_wp2_with fail
 go_loopw [] (λwr=>∃dk,Hid (SD X 0 dk wr)/\Hid (Lp (aD X.l) (.row [.wd 6 [⟨#[59]⟩],.mt .member]) d2 dk)) (λwr=>mW X wr)
 case atStart=>exact⟨_,H2.out,.refl⟩
 case round=>
  obtain⟨e3,G,u⟩:=hrel;(go_wp2_with fail);refine zL (bC G.out (by omega) [⟨#[59]⟩] (by simp) (by kernel_rfl) rfl rfl) (λ_ _ H I Z B=>?_) (λd4 _ H I4 Y=>?_) λ_ H M=>?_
  ·(go_wp2_with fail);exact⟨rfl,_,((ck S (u.out.go _ (aZ (ay H.out) (aR (by exact((ck c0 I).dead Z.out _))) (aN Z.out)))).dead Z.out _),o3 Z B⟩
  ·have C4:=ck c0 I4.out;(go_wp2_with fail);refine bM C4 (aM Y.out (by omega) (by omega) (ge _) (ko (htypedA (ms (aD X.l) d4) (by have m0:=HM.out;have m1:=am aB I1.out O.out.e0 Q.out.e0;have m2:=bA I2.out;have ac:=u.out.le;have m4:=am aB I4.out G.out.e0 Y.out.e0;omega))) kQ rfl (λd' hh=>aO (m:=.member) rfl hh)) (λ_ _ D I Z B=>?_) λd5 _ C5 I5 H5=>?_
   ·(go_wp2_with fail);exact⟨rfl,_,((ck S (u.out.go _ (aZ (ay H.out) (aR (by exact(D.dead Z.out _))) (aN Z.out)))).dead Z.out _),o3 Z B⟩
   (go_wp2_with fail);exact⟨⟨_,H5.out,u.out.step (ay H.out) (aR (by exact C5.nil))⟩,iu G.out H5.out (by have m0:=HM.out;have m1:=am aB I1.out O.out.e0 Q.out.e0;have m2:=bA I2.out;have ac:=u.out.le;have m4:=am aB I4.out G.out.e0 Y.out.e0;have m5:=bA I5.out;omega)⟩
  have aa:=ck S (u.out.fin (bT H.out));(go_wp2_with fail);refine bM aa (bN M.out (by omega) (by kernel_rfl)) (λ_ _ D I Z B=>?_) λae _ ab ad J=>?_
  ·(go_wp2_with fail);exact⟨rfl,_,(D.dead Z.out _),o3 Z B⟩
  (go_wp2_with fail);go_end0;exact⟨_,ab.nil,.inl ⟨J.out.e0,rfl,J.out⟩⟩
def LG (n:Nat) (hstatement:PC .statement 270 n) (hstatementA:∀k,k<n->PC .statement 270 k):bz 234 fT 45 n:=by
 intro X r d W h hr hm;have H0:=aW h;have Y:=aW hm;have ac:=mkfn;clear h hm;go_enter func234,ntmps234;(go_wp2_with fail);refine(hstatement X _ _ _ H0.out).mono ?_;rintro e w1⟨u1,v1,rfl,p1,M⟩;have P1:=aW p1;have H1:=show Hid _ from H0.out.below M
 clear p1 M;(go_wp2_with fail);refine bM c0 (dd H1.out (by omega) (by have m0:=Y.out;omega) P1.out) (λ_ _ D I Z B=>?_) λd2 _ S I2 H2=>?_
 ·(go_wp2_with fail);exact⟨rfl,_,(D.dead Z.out _),o3 Z B⟩
 go_wp2_with fail
 go_loopw [] (λwr=>∃dk,Hid (SD X 0 dk wr)/\Hid (Lp (aD X.l) (.row [.wd 6 [⟨#[59]⟩],.mt .statement]) d2 dk)) (λwr=>mW X wr)
 case atStart=>exact⟨_,H2.out,.refl⟩
 case round=>
  obtain⟨e3,G,u⟩:=hrel;(go_wp2_with fail);refine zL (bC G.out (by omega) [⟨#[59]⟩] (by simp) (by kernel_rfl) rfl rfl) (λ_ _ J I Z B=>?_) (λd4 _ J I4 Q=>?_) λ_ J H=>?_
  ·(go_wp2_with fail);exact⟨rfl,_,((ck S (u.out.go _ (aZ (ay J.out) (aR (by exact((ck c0 I).dead Z.out _))) (aN Z.out)))).dead Z.out _),o3 Z B⟩
  ·have C4:=ck c0 I4.out;(go_wp2_with fail);refine((hstatementA (ms (aD X.l) d4) (by have m0:=Y.out;have m2:=bA I2.out;have ab:=u.out.le;have m4:=am aB I4.out G.out.e0 Q.out.e0;omega)) X _ _ _ Q.out).mono ?_;rintro e w5⟨u5,v5,rfl,p5,O⟩;have P5:=aW p5;have H5:=show Hid _ from Q.out.below O
   clear p5 O;(go_wp2_with fail);refine bM C4 (dd H5.out (by omega) (ge _) P5.out) (λ_ _ D I Z B=>?_) λd6 _ C6 I6 H6=>?_
   ·(go_wp2_with fail);exact⟨rfl,_,((ck S (u.out.go _ (aZ (ay J.out) (aR (by exact(D.dead Z.out _))) (aN Z.out)))).dead Z.out _),o3 Z B⟩
   (go_wp2_with fail);exact⟨⟨_,H6.out,u.out.step (ay J.out) (aR (by exact C6.nil))⟩,iu G.out H6.out (by have m0:=Y.out;have m2:=bA I2.out;have ab:=u.out.le;have m4:=am aB I4.out G.out.e0 Q.out.e0;have m6:=bA I6.out;omega)⟩
  have aa:=ck S (u.out.fin (bT J.out));(go_wp2_with fail);go_end0;exact⟨_,aa.nil,.inl ⟨H.out.e0,rfl,H.out⟩⟩
def JJ (n:Nat):bz 285 nL 90 n:=by
 intro X r d W h S G;have J:=aW h;have O:=aW G;have M:=mkfn;clear h G;go_enter func285,ntmps285;(go_wp2_with fail);refine bM c0 (bN J.out (by omega) (by kernel_rfl)) (λ_ _ D I Z B=>?_) λd1 _ H Q u=>?_
 ·(go_wp2_with fail);exact⟨rfl,_,(D.dead Z.out _),o3 Z B⟩
 (go_wp2_with fail);go_end0;exact⟨_,H.nil,.inl ⟨u.out.e0,rfl,u.out⟩⟩
def OF (n:Nat) (hobject:bz 297 gE 95 n) (hexprA:∀k,k<n->bz 281 cO 50 k):bz 284 pi 90 n:=by
 intro X r d W h hr hm;have H0:=aW h;have Y:=aW hm;have aa:=mkfn;clear h hm;go_enter func284,ntmps284;(go_wp2_with fail);refine bM c0 (aM H0.out (by omega) (by omega) (by have m0:=Y.out;omega) hobject ro rfl (λd' J=>aO (m:=.object) rfl J)) (λ_ _ D I Z B=>?_) λd1 _ H I1 O=>?_
 ·(go_wp2_with fail);exact⟨rfl,_,(D.dead Z.out _),o3 Z B⟩
 (go_wp2_with fail);refine zL (bC O.out (by omega) [⟨#[58,61]⟩] (by simp) (by kernel_rfl) rfl rfl) (λ_ _ G I Z B=>?_) (λd2 _ G I2 Q=>?_) λ_ G u=>?_
 ·(go_wp2_with fail);exact⟨rfl,_,((ck H (bI (ay G.out) (aR (by exact((ck c0 I).dead Z.out _))))).dead Z.out _),o3 Z B⟩
 ·have C2:=ck c0 I2.out;(go_wp2_with fail);refine bM C2 (aM Q.out (by omega) (by omega) (ge _) (hexprA (ms (aD X.l) d2) (by have m0:=Y.out;have m1:=bA I1.out;have m2:=am aB I2.out O.out.e0 Q.out.e0;omega)) cU rfl (λd' J=>aO (m:=.expr) rfl J)) (λ_ _ D I Z B=>?_) λd3 _ C3 I3 S=>?_
  ·(go_wp2_with fail);exact⟨rfl,_,((ck H (bI (ay G.out) (aR (by exact(D.dead Z.out _))))).dead Z.out _),o3 Z B⟩
  have C4:=ck H (bI (ay G.out) (aR (r:=[.wd 6 [⟨#[58,61]⟩],.mt .expr]) C3.nil));(go_wp2_with fail);go_end0;exact⟨_,C4.nil,.inl ⟨S.out.e0,rfl,S.out⟩⟩
 have M:=ck H (dR (bT (r:=[.mt .expr]) G.out));(go_wp2_with fail);go_end0;exact⟨_,M.nil,.inl ⟨u.out.e0,rfl,u.out⟩⟩
def DI (n:Nat) (hexpr:bz 281 cO 50 n) (hbodyA:∀k,k<n->bz 234 fT 45 k):bz 298 lS 45 n:=by
 intro X r d W h hr O;have H0:=aW h;have M:=aW O;have aa:=mkfn;clear h O;go_enter func298,ntmps298;(go_wp2_with fail);refine bM c0 (aM H0.out (by omega) (by omega) (by have m0:=M.out;omega) hexpr cU rfl (λd' u=>aO (m:=.expr) rfl u)) (λ_ _ D I Z B=>?_) λd1 _ Q I1 G=>?_
 ·(go_wp2_with fail);exact⟨rfl,_,(D.dead Z.out _),o3 Z B⟩
 (go_wp2_with fail);refine bM Q (bN G.out (by omega) (by kernel_rfl)) (λ_ _ D I Z B=>?_) λd2 _ S I2 H=>?_
 ·(go_wp2_with fail);exact⟨rfl,_,(D.dead Z.out _),o3 Z B⟩
 (go_wp2_with fail);refine bM S (aM H.out (by omega) (by omega) (ge _) (hbodyA (ms (aD X.l) d2) (by have m0:=M.out;have m1:=bA I1.out;have m2:=am aB I2.out G.out.e0 H.out.e0;omega)) jw rfl (λd' u=>aO (m:=.body) rfl u)) (λ_ _ D I Z B=>?_) λd3 _ Y I3 J=>?_
 ·(go_wp2_with fail);exact⟨rfl,_,(D.dead Z.out _),o3 Z B⟩
 (go_wp2_with fail);go_end0;exact⟨_,Y.nil,.inl ⟨J.out.e0,rfl,J.out⟩⟩
def Lh (n:Nat) (hbodyA:∀k,k<n->bz 234 fT 45 k):bz 299 nN 90 n:=by
 intro X r d W h hr J;have u:=aW h;have Y:=aW J;have aa:=mkfn;clear h J;go_enter func299,ntmps299;(go_wp2_with fail);refine bM c0 (bN u.out (by omega) (by kernel_rfl)) (λ_ _ D I Z B=>?_) λd1 _ M I1 G=>?_
 ·(go_wp2_with fail);exact⟨rfl,_,(D.dead Z.out _),o3 Z B⟩
 (go_wp2_with fail);refine bM M (aM G.out (by omega) (by omega) (ge _) (hbodyA (ms (aD X.l) d1) (by have m0:=Y.out;have m1:=am aB I1.out u.out.e0 G.out.e0;omega)) jw rfl (λd' hh=>aO (m:=.body) rfl hh)) (λ_ _ D I Z B=>?_) λd2 _ O I2 S=>?_
 ·(go_wp2_with fail);exact⟨rfl,_,(D.dead Z.out _),o3 Z B⟩
 (go_wp2_with fail);refine bM O (bN S.out (by omega) (by kernel_rfl)) (λ_ _ D I Z B=>?_) λd3 _ Q I3 H=>?_
 ·(go_wp2_with fail);exact⟨rfl,_,(D.dead Z.out _),o3 Z B⟩
 (go_wp2_with fail);go_end0;exact⟨_,Q.nil,.inl ⟨H.out.e0,rfl,H.out⟩⟩
def xu (n:Nat) (hbranchA:∀k,k<n->bz 298 lS 45 k) (hbodyA:∀k,k<n->bz 234 fT 45 k):bz 286 fS 90 n:=by
 intro X r d W h hr hm;have Q:=aW h;have HM:=aW hm;have ax:=mkfn;clear h hm;go_enter func286,ntmps286;(go_wp2_with fail);refine bM c0 (bN Q.out (by omega) (by kernel_rfl)) (λ_ _ D I Z B=>?_) λd1 _ C1 I1 S=>?_
 ·(go_wp2_with fail);exact⟨rfl,_,(D.dead Z.out _),o3 Z B⟩
 (go_wp2_with fail);refine JA C1 ((hbranchA (ms (aD X.l) d1) (by have m0:=HM.out;have m1:=am aB I1.out Q.out.e0 S.out.e0;omega)) X _ _ _ S.out (by omega) (ge _)) (λ_ _ D Z B=>?_) λd2 _ C2 I2 H2=>?_
 ·(go_wp2_with fail);exact⟨rfl,_,(D.dead Z.out _),o3 Z B⟩
 go_wp2_with fail
 go_loopw [] (λwr=>∃dk,Hid (SD X 0 dk wr)/\Hid (Lp (aD X.l) (.row [.wd 2 [⟨#[101,108,105,102]⟩],.mt .expr,.wd 2 [⟨#[116,104,101,110]⟩],.mt .body]) d2 dk)) (λwr=>mW X wr)
 case atStart=>exact⟨_,H2.out,.refl⟩
 case round=>
  obtain⟨e3,J,u⟩:=hrel;(go_wp2_with fail);refine zL (iw J.out (by omega) [⟨#[101,108,105,102]⟩] (by simp) (by kernel_rfl) rfl rfl) (λ_ _ O I Z B=>?_) (λd4 _ O I4 H4=>?_) λ_ O M=>?_
  ·(go_wp2_with fail);exact⟨rfl,_,((ck C2 (u.out.go _ (aZ (ay O.out) (aR (by exact((ck c0 I).dead Z.out _))) (aN Z.out)))).dead Z.out _),o3 Z B⟩
  ·have C4:=ck c0 I4.out;(go_wp2_with fail);refine JA C4 ((hbranchA (ms (aD X.l) d4) (by have m0:=HM.out;have m1:=am aB I1.out Q.out.e0 S.out.e0;have m2:=lM (I2.out []);have ad:=u.out.le;have m4:=am aB I4.out J.out.e0 H4.out.e0;omega)) X _ _ _ H4.out (by omega) (ge _)) (λ_ _ D Z B=>?_) λd5 _ C5 I5 H5=>?_
   ·(go_wp2_with fail);exact⟨rfl,_,((ck C2 (u.out.go _ (aZ (ay O.out) (aR (by exact(D.dead Z.out _))) (aN Z.out)))).dead Z.out _),o3 Z B⟩
   (go_wp2_with fail);exact⟨⟨_,H5.out,u.out.step (ay O.out) (aR (by exact C5.nil))⟩,iu J.out H5.out (by have m0:=HM.out;have m1:=am aB I1.out Q.out.e0 S.out.e0;have m2:=lM (I2.out []);have ad:=u.out.le;have m4:=am aB I4.out J.out.e0 H4.out.e0;have m5:=lM (I5.out []);omega)⟩
  have H:=ck C2 (u.out.fin (bT O.out));(go_wp2_with fail);refine zL (iw M.out (by omega) [⟨#[101,108,115,101]⟩] (by simp) (by kernel_rfl) rfl rfl) (λ_ _ G I Z B=>?_) (λan _ G ac Y=>?_) λ_ G ae=>?_
  ·(go_wp2_with fail);exact⟨rfl,_,((ck H (bI (ay G.out) (aR (by exact((ck c0 I).dead Z.out _))))).dead Z.out _),o3 Z B⟩
  ·have af:=ck c0 ac.out;(go_wp2_with fail);refine bM af (aM Y.out (by omega) (by omega) (ge _) (hbodyA (ms (aD X.l) an) (by have m0:=HM.out;have m1:=am aB I1.out Q.out.e0 S.out.e0;have m2:=lM (I2.out []);have ad:=u.out.le;have az:=am aB ac.out M.out.e0 Y.out.e0;omega)) jw rfl (λd' hh=>aO (m:=.body) rfl hh)) (λ_ _ D I Z B=>?_) λau _ ag ap al=>?_
   ·(go_wp2_with fail);exact⟨rfl,_,((ck H (bI (ay G.out) (aR (by exact(D.dead Z.out _))))).dead Z.out _),o3 Z B⟩
   have ah:=ck H (bI (ay G.out) (aR (r:=[.wd 2 [⟨#[101,108,115,101]⟩],.mt .body]) ag.nil));(go_wp2_with fail);refine bM ah (bN al.out (by omega) (by kernel_rfl)) (λ_ _ D I Z B=>?_) λav _ ai aq aa=>?_
   ·(go_wp2_with fail);exact⟨rfl,_,(D.dead Z.out _),o3 Z B⟩
   (go_wp2_with fail);go_end0;exact⟨_,ai.nil,.inl ⟨aa.out.e0,rfl,aa.out⟩⟩
  have aj:=ck H (dR (bT (r:=[.mt .body]) G.out));(go_wp2_with fail);refine bM aj (bN ae.out (by omega) (by kernel_rfl)) (λ_ _ D I Z B=>?_) λaw _ ak ar ab=>?_
  ·(go_wp2_with fail);exact⟨rfl,_,(D.dead Z.out _),o3 Z B⟩
  (go_wp2_with fail);go_end0;exact⟨_,ak.nil,.inl ⟨ab.out.e0,rfl,ab.out⟩⟩
def D4 (n:Nat) (hexprA:∀k,k<n->bz 281 cO 50 k) (hdoneA:∀k,k<n->bz 299 nN 90 k):bz 287 kF 90 n:=by
 intro X r d W h hr O;have u:=aW h;have J:=aW O;have aa:=mkfn;clear h O;go_enter func287,ntmps287;(go_wp2_with fail);refine bM c0 (bN u.out (by omega) (by kernel_rfl)) (λ_ _ D I Z B=>?_) λd1 _ Q M G=>?_
 ·(go_wp2_with fail);exact⟨rfl,_,(D.dead Z.out _),o3 Z B⟩
 (go_wp2_with fail);refine bM Q (aM G.out (by omega) (by omega) (ge _) (hexprA (ms (aD X.l) d1) (by have m0:=J.out;have m1:=am aB M.out u.out.e0 G.out.e0;omega)) cU rfl (λd' hh=>aO (m:=.expr) rfl hh)) (λ_ _ D I Z B=>?_) λd2 _ S I2 H2=>?_
 ·(go_wp2_with fail);exact⟨rfl,_,(D.dead Z.out _),o3 Z B⟩
 (go_wp2_with fail);refine JA S ((hdoneA (ms (aD X.l) d2) (by have m0:=J.out;have m1:=am aB M.out u.out.e0 G.out.e0;have m2:=bA I2.out;omega)) X _ _ _ H2.out (by omega) (ge _)) (λ_ _ D Z B=>?_) λd3 _ Y I3 H=>?_
 ·(go_wp2_with fail);exact⟨rfl,_,(D.dead Z.out _),o3 Z B⟩
 (go_wp2_with fail);go_end0;exact⟨_,Y.nil,.inl ⟨H.out.e0,rfl,H.out⟩⟩
def Hr (n:Nat) (hexprA:∀k,k<n->bz 281 cO 50 k) (hdoneA:∀k,k<n->bz 299 nN 90 k):bz 288 kJ 90 n:=by
 intro X r d W h hr hm;have H:=aW h;have Q:=aW hm;have aa:=mkfn;clear h hm;go_enter func288,ntmps288;(go_wp2_with fail);refine bM c0 (bN H.out (by omega) (by kernel_rfl)) (λ_ _ D I Z B=>?_) λd1 _ C1 S u=>?_
 ·(go_wp2_with fail);exact⟨rfl,_,(D.dead Z.out _),o3 Z B⟩
 (go_wp2_with fail);refine bM C1 (fh u.out (by omega)) (λ_ _ D I Z B=>?_) λd2 _ C2 Y G=>?_
 ·(go_wp2_with fail);exact⟨rfl,_,(D.dead Z.out _),o3 Z B⟩
 (go_wp2_with fail);refine bM C2 (bh G.out (by omega) (by kernel_rfl)) (λ_ _ D I Z B=>?_) λd3 _ C3 I3 J=>?_
 ·(go_wp2_with fail);exact⟨rfl,_,(D.dead Z.out _),o3 Z B⟩
 (go_wp2_with fail);refine bM C3 (aM J.out (by omega) (by omega) (ge _) (hexprA (ms (aD X.l) d3) (by have m0:=Q.out;have m1:=am aB S.out H.out.e0 u.out.e0;have m2:=am cE Y.out u.out.e0 G.out.e0;have m3:=am aB I3.out G.out.e0 J.out.e0;omega)) cU rfl (λd' hh=>aO (m:=.expr) rfl hh)) (λ_ _ D I Z B=>?_) λd4 _ C4 I4 M=>?_
 ·(go_wp2_with fail);exact⟨rfl,_,(D.dead Z.out _),o3 Z B⟩
 (go_wp2_with fail);refine bM C4 (bN M.out (by omega) (by kernel_rfl)) (λ_ _ D I Z B=>?_) λd5 _ C5 I5 O=>?_
 ·(go_wp2_with fail);exact⟨rfl,_,(D.dead Z.out _),o3 Z B⟩
 (go_wp2_with fail);refine bM C5 (aM O.out (by omega) (by omega) (ge _) (hexprA (ms (aD X.l) d5) (by have m0:=Q.out;have m1:=am aB S.out H.out.e0 u.out.e0;have m2:=am cE Y.out u.out.e0 G.out.e0;have m3:=am aB I3.out G.out.e0 J.out.e0;have m4:=bA I4.out;have m5:=am aB I5.out M.out.e0 O.out.e0;omega)) cU rfl (λd' hh=>aO (m:=.expr) rfl hh)) (λ_ _ D I Z B=>?_) λd6 _ C6 I6 H6=>?_
 ·(go_wp2_with fail);exact⟨rfl,_,(D.dead Z.out _),o3 Z B⟩
 (go_wp2_with fail);refine JA C6 ((hdoneA (ms (aD X.l) d6) (by have m0:=Q.out;have m1:=am aB S.out H.out.e0 u.out.e0;have m2:=am cE Y.out u.out.e0 G.out.e0;have m3:=am aB I3.out G.out.e0 J.out.e0;have m4:=bA I4.out;have m5:=am aB I5.out M.out.e0 O.out.e0;have m6:=bA I6.out;omega)) X _ _ _ H6.out (by omega) (ge _)) (λ_ _ D Z B=>?_) λd7 _ C7 I7 H7=>?_
 ·(go_wp2_with fail);exact⟨rfl,_,(D.dead Z.out _),o3 Z B⟩
 (go_wp2_with fail);go_end0;exact⟨_,C7.nil,.inl ⟨H7.out.e0,rfl,H7.out⟩⟩
def Co (n:Nat) (hbodyA:∀k,k<n->bz 234 fT 45 k) (hexprA:∀k,k<n->bz 281 cO 50 k):bz 289 jp 90 n:=by
 intro X r d W h hr Y;have u:=aW h;have Q:=aW Y;have aa:=mkfn;clear h Y;go_enter func289,ntmps289;(go_wp2_with fail);refine bM c0 (bN u.out (by omega) (by kernel_rfl)) (λ_ _ D I Z B=>?_) λd1 _ C1 S G=>?_
 ·(go_wp2_with fail);exact⟨rfl,_,(D.dead Z.out _),o3 Z B⟩
 (go_wp2_with fail);refine bM C1 (aM G.out (by omega) (by omega) (ge _) (hbodyA (ms (aD X.l) d1) (by have m0:=Q.out;have m1:=am aB S.out u.out.e0 G.out.e0;omega)) jw rfl (λd' H=>aO (m:=.body) rfl H)) (λ_ _ D I Z B=>?_) λd2 _ C2 I2 J=>?_
 ·(go_wp2_with fail);exact⟨rfl,_,(D.dead Z.out _),o3 Z B⟩
 (go_wp2_with fail);refine bM C2 (bN J.out (by omega) (by kernel_rfl)) (λ_ _ D I Z B=>?_) λd3 _ C3 I3 M=>?_
 ·(go_wp2_with fail);exact⟨rfl,_,(D.dead Z.out _),o3 Z B⟩
 (go_wp2_with fail);refine bM C3 (aM M.out (by omega) (by omega) (ge _) (hexprA (ms (aD X.l) d3) (by have m0:=Q.out;have m1:=am aB S.out u.out.e0 G.out.e0;have m2:=bA I2.out;have m3:=am aB I3.out J.out.e0 M.out.e0;omega)) cU rfl (λd' H=>aO (m:=.expr) rfl H)) (λ_ _ D I Z B=>?_) λd4 _ C4 I4 O=>?_
 ·(go_wp2_with fail);exact⟨rfl,_,(D.dead Z.out _),o3 Z B⟩
 (go_wp2_with fail);go_end0;exact⟨_,C4.nil,.inl ⟨O.out.e0,rfl,O.out⟩⟩
def DO (n:Nat) (hexprA:∀k,k<n->bz 281 cO 50 k):bz 290 jq 90 n:=by
 intro X r d W h hr hm;have S:=aW h;have HM:=aW hm;have aa:=mkfn;clear h hm;go_enter func290,ntmps290;(go_wp2_with fail);refine bM c0 (bN S.out (by omega) (by kernel_rfl)) (λ_ _ D I Z B=>?_) λd1 _ Q I1 J=>?_
 ·(go_wp2_with fail);exact⟨rfl,_,(D.dead Z.out _),o3 Z B⟩
 (go_wp2_with fail);refine(pf J.out).mono ?_;rintro e w2⟨b2,rfl,u,H⟩;have M:=show Hid _ from J.out.below H
 have G:=show Hid _ from u .expr
 clear H u;cases b2 with
 |true=>
  (go_wp2_with fail);refine bM Q (aM M.out (by omega) (by omega) (ge _) (hexprA (ms (aD X.l) d1) (by have m0:=HM.out;have m1:=am aB I1.out S.out.e0 J.out.e0;omega)) cU rfl (λd' hh=>bI G.out (aO (m:=.expr) rfl hh))) (λ_ _ D I Z B=>?_) λd3 _ C3 I3 Y=>?_
  ·(go_wp2_with fail);exact⟨rfl,_,(D.dead Z.out _),o3 Z B⟩
  (go_wp2_with fail);go_end0;exact⟨_,C3.nil,.inl ⟨Y.out.e0,rfl,Y.out⟩⟩
 |false=>
  have O:=ck Q (dR G.out);(go_wp2_with fail);go_end0;exact⟨_,O.nil,.inl ⟨M.out.e0,rfl,M.out⟩⟩
def xh (n:Nat) (hbodyA:∀k,k<n->bz 234 fT 45 k):bz 291 fR 90 n:=by
 intro X r d W h hr J;have u:=aW h;have Y:=aW J;have aa:=mkfn;clear h J;go_enter func291,ntmps291;(go_wp2_with fail);refine bM c0 (bN u.out (by omega) (by kernel_rfl)) (λ_ _ D I Z B=>?_) λd1 _ M I1 G=>?_
 ·(go_wp2_with fail);exact⟨rfl,_,(D.dead Z.out _),o3 Z B⟩
 (go_wp2_with fail);refine bM M (aM G.out (by omega) (by omega) (ge _) (hbodyA (ms (aD X.l) d1) (by have m0:=Y.out;have m1:=am aB I1.out u.out.e0 G.out.e0;omega)) jw rfl (λd' hh=>aO (m:=.body) rfl hh)) (λ_ _ D I Z B=>?_) λd2 _ O I2 S=>?_
 ·(go_wp2_with fail);exact⟨rfl,_,(D.dead Z.out _),o3 Z B⟩
 (go_wp2_with fail);refine bM O (bN S.out (by omega) (by kernel_rfl)) (λ_ _ D I Z B=>?_) λd3 _ Q I3 H=>?_
 ·(go_wp2_with fail);exact⟨rfl,_,(D.dead Z.out _),o3 Z B⟩
 (go_wp2_with fail);go_end0;exact⟨_,Q.nil,.inl ⟨H.out.e0,rfl,H.out⟩⟩
variable {X:Sx}{d:D}{t:Tv}{W:World}
def K7 (n:Nat) (hrel:bz 294 td 55 n) (hrelA:∀k,k<n->bz 294 td 55 k):bz 281 cO 50 n:=by
 intro X r d W h hr hm;have H0:=aW h;have Q:=aW hm;have ac:=mkfn;clear h hm;go_enter func281,ntmps281;(go_wp2_with fail);refine bM c0 (aM H0.out (by omega) (by omega) (by have m0:=Q.out;omega) hrel GT rfl (λd' Y=>aO (m:=.rel) rfl Y)) (λ_ _ D I Z B=>?_) λd1 _ M I1 H1=>?_
 ·(go_wp2_with fail);exact⟨rfl,_,(D.dead Z.out _),o3 Z B⟩
 go_wp2_with fail
 go_loopw [] (λwr=>∃dk,Hid (SD X 0 dk wr)/\Hid (Lp (aD X.l) (.row [.wd 2 [⟨#[97,110,100]⟩,⟨#[111,114]⟩],.mt .rel]) d1 dk)) (λwr=>mW X wr)
 case atStart=>exact⟨_,H1.out,.refl⟩
 case round=>
  obtain⟨e2,G,u⟩:=hrel;(go_wp2_with fail);refine zL (iw G.out (by omega) [⟨#[97,110,100]⟩,⟨#[111,114]⟩] (by simp) (by kernel_rfl) rfl rfl) (λ_ _ J I Z B=>?_) (λd3 _ J S O=>?_) λ_ J H=>?_
  ·(go_wp2_with fail);exact⟨rfl,_,((ck M (u.out.go _ (aZ (ay J.out) (aR (by exact((ck c0 I).dead Z.out _))) (aN Z.out)))).dead Z.out _),o3 Z B⟩
  ·have C3:=ck c0 S.out;(go_wp2_with fail);refine bM C3 (aM O.out (by omega) (by omega) (ge _) (hrelA (ms (aD X.l) d3) (by have m0:=Q.out;have m1:=bA I1.out;have ab:=u.out.le;have m3:=am aB S.out G.out.e0 O.out.e0;omega)) GT rfl (λd' Y=>aO (m:=.rel) rfl Y)) (λ_ _ D I Z B=>?_) λd4 _ C4 I4 H4=>?_
   ·(go_wp2_with fail);exact⟨rfl,_,((ck M (u.out.go _ (aZ (ay J.out) (aR (by exact(D.dead Z.out _))) (aN Z.out)))).dead Z.out _),o3 Z B⟩
   (go_wp2_with fail);exact⟨⟨_,H4.out,u.out.step (ay J.out) (aR (by exact C4.nil))⟩,iu G.out H4.out (by have m0:=Q.out;have m1:=bA I1.out;have ab:=u.out.le;have m3:=am aB S.out G.out.e0 O.out.e0;have m4:=bA I4.out;omega)⟩
  have aa:=ck M (u.out.fin (bT J.out));(go_wp2_with fail);go_end0;exact⟨_,aa.nil,.inl ⟨H.out.e0,rfl,H.out⟩⟩
def Nk (n:Nat) (hsum:bz 302 tc 60 n) (hsumA:∀k,k<n->bz 302 tc 60 k):bz 294 td 55 n:=by
 intro X r d W h hr hm;have H0:=aW h;have Y:=aW hm;have aa:=mkfn;clear h hm;go_enter func294,ntmps294;(go_wp2_with fail);refine bM c0 (aM H0.out (by omega) (by omega) (by have m0:=Y.out;omega) hsum GS rfl (λd' J=>aO (m:=.sum) rfl J)) (λ_ _ D I Z B=>?_) λd1 _ H I1 O=>?_
 ·(go_wp2_with fail);exact⟨rfl,_,(D.dead Z.out _),o3 Z B⟩
 (go_wp2_with fail);refine zL (bC O.out (by omega) [⟨#[61]⟩,⟨#[35]⟩,⟨#[60]⟩,⟨#[60,61]⟩,⟨#[62]⟩,⟨#[62,61]⟩] (by simp) (by kernel_rfl) rfl rfl) (λ_ _ G I Z B=>?_) (λd2 _ G I2 Q=>?_) λ_ G u=>?_
 ·(go_wp2_with fail);exact⟨rfl,_,((ck H (bI (ay G.out) (aR (by exact((ck c0 I).dead Z.out _))))).dead Z.out _),o3 Z B⟩
 ·have C2:=ck c0 I2.out;(go_wp2_with fail);refine bM C2 (aM Q.out (by omega) (by omega) (ge _) (hsumA (ms (aD X.l) d2) (by have m0:=Y.out;have m1:=bA I1.out;have m2:=am aB I2.out O.out.e0 Q.out.e0;omega)) GS rfl (λd' J=>aO (m:=.sum) rfl J)) (λ_ _ D I Z B=>?_) λd3 _ C3 I3 S=>?_
  ·(go_wp2_with fail);exact⟨rfl,_,((ck H (bI (ay G.out) (aR (by exact(D.dead Z.out _))))).dead Z.out _),o3 Z B⟩
  have C4:=ck H (bI (ay G.out) (aR (r:=[.wd 6 [⟨#[61]⟩,⟨#[35]⟩,⟨#[60]⟩,⟨#[60,61]⟩,⟨#[62]⟩,⟨#[62,61]⟩],.mt .sum]) C3.nil));(go_wp2_with fail);go_end0;exact⟨_,C4.nil,.inl ⟨S.out.e0,rfl,S.out⟩⟩
 have M:=ck H (dR (bT (r:=[.mt .sum]) G.out));(go_wp2_with fail);go_end0;exact⟨_,M.nil,.inl ⟨u.out.e0,rfl,u.out⟩⟩
def MW (n:Nat) (hterm:bz 305 nK 65 n) (htermA:∀k,k<n->bz 305 nK 65 k):bz 302 tc 60 n:=by
 intro X r d W h hr hm;have H0:=aW h;have Q:=aW hm;have ac:=mkfn;clear h hm;go_enter func302,ntmps302;(go_wp2_with fail);refine bM c0 (aM H0.out (by omega) (by omega) (by have m0:=Q.out;omega) hterm A5 rfl (λd' Y=>aO (m:=.term) rfl Y)) (λ_ _ D I Z B=>?_) λd1 _ M I1 H1=>?_
 ·(go_wp2_with fail);exact⟨rfl,_,(D.dead Z.out _),o3 Z B⟩
 go_wp2_with fail
 go_loopw [] (λwr=>∃dk,Hid (SD X 0 dk wr)/\Hid (Lp (aD X.l) (.row [.wd 6 [⟨#[43]⟩,⟨#[45]⟩],.mt .term]) d1 dk)) (λwr=>mW X wr)
 case atStart=>exact⟨_,H1.out,.refl⟩
 case round=>
  obtain⟨e2,G,u⟩:=hrel;(go_wp2_with fail);refine zL (bC G.out (by omega) [⟨#[43]⟩,⟨#[45]⟩] (by simp) (by kernel_rfl) rfl rfl) (λ_ _ J I Z B=>?_) (λd3 _ J S O=>?_) λ_ J H=>?_
  ·(go_wp2_with fail);exact⟨rfl,_,((ck M (u.out.go _ (aZ (ay J.out) (aR (by exact((ck c0 I).dead Z.out _))) (aN Z.out)))).dead Z.out _),o3 Z B⟩
  ·have C3:=ck c0 S.out;(go_wp2_with fail);refine bM C3 (aM O.out (by omega) (by omega) (ge _) (htermA (ms (aD X.l) d3) (by have m0:=Q.out;have m1:=bA I1.out;have ab:=u.out.le;have m3:=am aB S.out G.out.e0 O.out.e0;omega)) A5 rfl (λd' Y=>aO (m:=.term) rfl Y)) (λ_ _ D I Z B=>?_) λd4 _ C4 I4 H4=>?_
   ·(go_wp2_with fail);exact⟨rfl,_,((ck M (u.out.go _ (aZ (ay J.out) (aR (by exact(D.dead Z.out _))) (aN Z.out)))).dead Z.out _),o3 Z B⟩
   (go_wp2_with fail);exact⟨⟨_,H4.out,u.out.step (ay J.out) (aR (by exact C4.nil))⟩,iu G.out H4.out (by have m0:=Q.out;have m1:=bA I1.out;have ab:=u.out.le;have m3:=am aB S.out G.out.e0 O.out.e0;have m4:=bA I4.out;omega)⟩
  have aa:=ck M (u.out.fin (bT J.out));(go_wp2_with fail);go_end0;exact⟨_,aa.nil,.inl ⟨H.out.e0,rfl,H.out⟩⟩
def Jp (n:Nat) (hfactor:PC .factor 304 n) (hfactorA:∀k,k<n->PC .factor 304 k):bz 305 nK 65 n:=by
 intro X r d W h hr hm;have H0:=aW h;have Y:=aW hm;have ac:=mkfn;clear h hm;go_enter func305,ntmps305;(go_wp2_with fail);refine(hfactor X _ _ _ H0.out).mono ?_;rintro e w1⟨u1,v1,rfl,p1,M⟩;have P1:=aW p1;have H1:=show Hid _ from H0.out.below M
 clear p1 M;(go_wp2_with fail);refine bM c0 (dd H1.out (by omega) (by have m0:=Y.out;omega) P1.out) (λ_ _ D I Z B=>?_) λd2 _ S I2 H2=>?_
 ·(go_wp2_with fail);exact⟨rfl,_,(D.dead Z.out _),o3 Z B⟩
 go_wp2_with fail
 go_loopw [] (λwr=>∃dk,Hid (SD X 0 dk wr)/\Hid (Lp (aD X.l) (.row [.wd 6 [⟨#[42]⟩,⟨#[47]⟩,⟨#[37]⟩],.mt .factor]) d2 dk)) (λwr=>mW X wr)
 case atStart=>exact⟨_,H2.out,.refl⟩
 case round=>
  obtain⟨e3,G,u⟩:=hrel;(go_wp2_with fail);refine zL (bC G.out (by omega) [⟨#[42]⟩,⟨#[47]⟩,⟨#[37]⟩] (by simp) (by kernel_rfl) rfl rfl) (λ_ _ J I Z B=>?_) (λd4 _ J I4 Q=>?_) λ_ J H=>?_
  ·(go_wp2_with fail);exact⟨rfl,_,((ck S (u.out.go _ (aZ (ay J.out) (aR (by exact((ck c0 I).dead Z.out _))) (aN Z.out)))).dead Z.out _),o3 Z B⟩
  ·have C4:=ck c0 I4.out;(go_wp2_with fail);refine((hfactorA (ms (aD X.l) d4) (by have m0:=Y.out;have m2:=bA I2.out;have ab:=u.out.le;have m4:=am aB I4.out G.out.e0 Q.out.e0;omega)) X _ _ _ Q.out).mono ?_;rintro e w5⟨u5,v5,rfl,p5,O⟩;have P5:=aW p5;have H5:=show Hid _ from Q.out.below O
   clear p5 O;(go_wp2_with fail);refine bM C4 (dd H5.out (by omega) (ge _) P5.out) (λ_ _ D I Z B=>?_) λd6 _ C6 I6 H6=>?_
   ·(go_wp2_with fail);exact⟨rfl,_,((ck S (u.out.go _ (aZ (ay J.out) (aR (by exact(D.dead Z.out _))) (aN Z.out)))).dead Z.out _),o3 Z B⟩
   (go_wp2_with fail);exact⟨⟨_,H6.out,u.out.step (ay J.out) (aR (by exact C6.nil))⟩,iu G.out H6.out (by have m0:=Y.out;have m2:=bA I2.out;have ab:=u.out.le;have m4:=am aB I4.out G.out.e0 Q.out.e0;have m6:=bA I6.out;omega)⟩
  have aa:=ck S (u.out.fin (bT J.out));(go_wp2_with fail);go_end0;exact⟨_,aa.nil,.inl ⟨H.out.e0,rfl,H.out⟩⟩
def F6 (n:Nat) (hfactorA:∀k,k<n->PC .factor 304 k):bz 310 kG 90 n:=by
 intro X r d W h hr M;have H:=aW h;have HM:=aW M;have aa:=mkfn;clear h M;go_enter func310,ntmps310;(go_wp2_with fail);refine bM c0 (bh H.out (by omega) (by kernel_rfl)) (λ_ _ D I Z B=>?_) λd1 _ Q I1 G=>?_
 ·(go_wp2_with fail);exact⟨rfl,_,(D.dead Z.out _),o3 Z B⟩
 (go_wp2_with fail);refine((hfactorA (ms (aD X.l) d1) (by have m0:=HM.out;have m1:=am aB I1.out H.out.e0 G.out.e0;omega)) X _ _ _ G.out).mono ?_;rintro e w2⟨u2,v2,rfl,O,u⟩;have P2:=aW O;have Y:=show Hid _ from G.out.below u
 clear O u;(go_wp2_with fail);refine bM Q (dd Y.out (by omega) (ge _) P2.out) (λ_ _ D I Z B=>?_) λd3 _ S I3 J=>?_
 ·(go_wp2_with fail);exact⟨rfl,_,(D.dead Z.out _),o3 Z B⟩
 (go_wp2_with fail);go_end0;exact⟨_,S.nil,.inl ⟨J.out.e0,rfl,J.out⟩⟩
def Nz (n:Nat) (hfactorA:∀k,k<n->PC .factor 304 k):bz 309 te 90 n:=by
 intro X r d W h hr M;have H:=aW h;have HM:=aW M;have aa:=mkfn;clear h M;go_enter func309,ntmps309;(go_wp2_with fail);refine bM c0 (bN H.out (by omega) (by kernel_rfl)) (λ_ _ D I Z B=>?_) λd1 _ Q I1 G=>?_
 ·(go_wp2_with fail);exact⟨rfl,_,(D.dead Z.out _),o3 Z B⟩
 (go_wp2_with fail);refine((hfactorA (ms (aD X.l) d1) (by have m0:=HM.out;have m1:=am aB I1.out H.out.e0 G.out.e0;omega)) X _ _ _ G.out).mono ?_;rintro e w2⟨u2,v2,rfl,O,u⟩;have P2:=aW O;have Y:=show Hid _ from G.out.below u
 clear O u;(go_wp2_with fail);refine bM Q (dd Y.out (by omega) (ge _) P2.out) (λ_ _ D I Z B=>?_) λd3 _ S I3 J=>?_
 ·(go_wp2_with fail);exact⟨rfl,_,(D.dead Z.out _),o3 Z B⟩
 (go_wp2_with fail);go_end0;exact⟨_,S.nil,.inl ⟨J.out.e0,rfl,J.out⟩⟩
def Gz (n:Nat) (hexprA:∀k,k<n->bz 281 cO 50 k):bz 311 kI 90 n:=by
 intro X r d W h hr J;have u:=aW h;have Y:=aW J;have aa:=mkfn;clear h J;go_enter func311,ntmps311;(go_wp2_with fail);refine bM c0 (bh u.out (by omega) (by kernel_rfl)) (λ_ _ D I Z B=>?_) λd1 _ M I1 G=>?_
 ·(go_wp2_with fail);exact⟨rfl,_,(D.dead Z.out _),o3 Z B⟩
 (go_wp2_with fail);refine bM M (aM G.out (by omega) (by omega) (ge _) (hexprA (ms (aD X.l) d1) (by have m0:=Y.out;have m1:=am aB I1.out u.out.e0 G.out.e0;omega)) cU rfl (λd' hh=>aO (m:=.expr) rfl hh)) (λ_ _ D I Z B=>?_) λd2 _ O I2 S=>?_
 ·(go_wp2_with fail);exact⟨rfl,_,(D.dead Z.out _),o3 Z B⟩
 (go_wp2_with fail);refine bM O (bh S.out (by omega) (by kernel_rfl)) (λ_ _ D I Z B=>?_) λd3 _ Q I3 H=>?_
 ·(go_wp2_with fail);exact⟨rfl,_,(D.dead Z.out _),o3 Z B⟩
 (go_wp2_with fail);go_end0;exact⟨_,Q.nil,.inl ⟨H.out.e0,rfl,H.out⟩⟩
def CM (n:Nat) (hdetailA:∀k,k<n->PD .detail 303 k):bz 297 gE 95 n:=by
 intro X r d W h hr hm;have H0:=aW h;have HM:=aW hm;have ak:=mkfn;clear h hm;go_enter func297,ntmps297;(go_wp2_with fail);refine bM c0 (fh H0.out (by omega)) (λ_ _ D I Z B=>?_) λd1 _ C1 I1 S=>?_
 ·(go_wp2_with fail);exact⟨rfl,_,(D.dead Z.out _),o3 Z B⟩
 have Y:=aW (hdetailA (ms (aD X.l) d1) (by have m0:=HM.out;have m1:=am cE I1.out H0.out.e0 S.out.e0;omega));(go_wp2_with fail);refine(Y.out X _ _ _ S.out).mono ?_;rintro e w2⟨u2,v2,rfl,p2,aa⟩;have P2:=aW p2;have H2:=show Hid _ from S.out.below aa
 clear p2 aa;(go_wp2_with fail)
 go_loopw [2,3] (λu v wr=>∃dk,Hid (SD X 0 dk wr)/\Hid (Lp (aD X.l) (.fn .detail) d1 dk)/\Hid (IM X .detail (ms (aD X.l) d1) dk u v)) (λ_ _ wr=>mW X wr)
 case atStart=>exact⟨_,H2.out,.refl,P2.out⟩
 case round=>
  obtain⟨e2,G,H,Q⟩:=hrel;clear P2
  rcases Q.out with⟨nd,ff,M5,af,rfl,rfl,O,ac,ae,M,ad⟩|⟨rfl,rfl,M⟩
  ·have ai:=tt ff X.g;have J:=aW M;have HN:=aW (aM G.out (by omega) (by omega) (by have m0:=HM.out;have m1:=am cE I1.out H0.out.e0 S.out.e0;have aj:=H.out.le;omega) ae O ac ad);have ah:=aW λd' (h1:Ib (aD X.l) af e2 d') (h2:d'.e=0)=>As J.out h1 G.out.e0 h2
   clear ae ad O M ac Q;(go_wp2_with fail);refine bM c0 (HN.out) (λ_ _ D I Z B=>?_) λd3 _ C3 I3 H3=>?_
   ·(go_wp2_with fail);exact⟨rfl,_,((ck C1 (H.out.go _ (aZ J.out I (aN Z.out)))).dead Z.out _),o3 Z B⟩
   (go_wp2_with fail);refine(Y.out X _ _ _ H3.out).mono ?_;rintro e w4⟨u4,v4,rfl,p4,ab⟩;have P4:=aW p4;have H4:=show Hid _ from H3.out.below ab
   clear p4 ab;(go_wp2_with fail);exact⟨⟨_,H4.out,H.out.step J.out I3.out,P4.out⟩,iu G.out H4.out (by have m0:=HM.out;have m1:=am cE I1.out H0.out.e0 S.out.e0;have aj:=H.out.le;have m3:=bA I3.out;have mx:=ah.out _ I3.out H3.out.e0;omega)⟩
  ·have ai:=pA;have J:=aW M;clear M Q;have ag:=ck C1 (H.out.fin J.out);(go_wp2_with fail);go_end0;exact⟨_,ag.nil,.inl ⟨G.out.e0,rfl,G.out⟩⟩
def KG (n:Nat) (hexpr:bz 281 cO 50 n) (hexprA:∀k,k<n->bz 281 cO 50 k):bz 312 nM 45 n:=by
 intro X r d W h hr hm;have H0:=aW h;have Q:=aW hm;have ac:=mkfn;clear h hm;go_enter func312,ntmps312;(go_wp2_with fail);refine bM c0 (aM H0.out (by omega) (by omega) (by have m0:=Q.out;omega) hexpr cU rfl (λd' Y=>aO (m:=.expr) rfl Y)) (λ_ _ D I Z B=>?_) λd1 _ M I1 H1=>?_
 ·(go_wp2_with fail);exact⟨rfl,_,(D.dead Z.out _),o3 Z B⟩
 go_wp2_with fail
 go_loopw [] (λwr=>∃dk,Hid (SD X 0 dk wr)/\Hid (Lp (aD X.l) (.row [.wd 6 [⟨#[44]⟩],.mt .expr]) d1 dk)) (λwr=>mW X wr)
 case atStart=>exact⟨_,H1.out,.refl⟩
 case round=>
  obtain⟨e2,G,u⟩:=hrel;(go_wp2_with fail);refine zL (bC G.out (by omega) [⟨#[44]⟩] (by simp) (by kernel_rfl) rfl rfl) (λ_ _ J I Z B=>?_) (λd3 _ J S O=>?_) λ_ J H=>?_
  ·(go_wp2_with fail);exact⟨rfl,_,((ck M (u.out.go _ (aZ (ay J.out) (aR (by exact((ck c0 I).dead Z.out _))) (aN Z.out)))).dead Z.out _),o3 Z B⟩
  ·have C3:=ck c0 S.out;(go_wp2_with fail);refine bM C3 (aM O.out (by omega) (by omega) (ge _) (hexprA (ms (aD X.l) d3) (by have m0:=Q.out;have m1:=bA I1.out;have ab:=u.out.le;have m3:=am aB S.out G.out.e0 O.out.e0;omega)) cU rfl (λd' Y=>aO (m:=.expr) rfl Y)) (λ_ _ D I Z B=>?_) λd4 _ C4 I4 H4=>?_
   ·(go_wp2_with fail);exact⟨rfl,_,((ck M (u.out.go _ (aZ (ay J.out) (aR (by exact(D.dead Z.out _))) (aN Z.out)))).dead Z.out _),o3 Z B⟩
   (go_wp2_with fail);exact⟨⟨_,H4.out,u.out.step (ay J.out) (aR (by exact C4.nil))⟩,iu G.out H4.out (by have m0:=Q.out;have m1:=bA I1.out;have ab:=u.out.le;have m3:=am aB S.out G.out.e0 O.out.e0;have m4:=bA I4.out;omega)⟩
  have aa:=ck M (u.out.fin (bT J.out));(go_wp2_with fail);go_end0;exact⟨_,aa.nil,.inl ⟨H.out.e0,rfl,H.out⟩⟩
def Gt (n:Nat) (hlistA:∀k,k<n->bz 312 nM 45 k):bz 306 kH 90 n:=by
 intro X r d W h hr J;have u:=aW h;have Y:=aW J;have aa:=mkfn;clear h J;go_enter func306,ntmps306;(go_wp2_with fail);refine bM c0 (bh u.out (by omega) (by kernel_rfl)) (λ_ _ D I Z B=>?_) λd1 _ M I1 G=>?_
 ·(go_wp2_with fail);exact⟨rfl,_,(D.dead Z.out _),o3 Z B⟩
 (go_wp2_with fail);refine bM M (RJ (m:=.list) rfl ((hlistA (ms (aD X.l) d1) (by have m0:=Y.out;have m1:=am aB I1.out u.out.e0 G.out.e0;omega)) X _ _ _ G.out (by omega) (ge _))) (λ_ _ D I Z B=>?_) λd2 _ O I2 S=>?_
 ·(go_wp2_with fail);exact⟨rfl,_,(D.dead Z.out _),o3 Z B⟩
 (go_wp2_with fail);refine bM O (bh S.out (by omega) (by kernel_rfl)) (λ_ _ D I Z B=>?_) λd3 _ Q I3 H=>?_
 ·(go_wp2_with fail);exact⟨rfl,_,(D.dead Z.out _),o3 Z B⟩
 (go_wp2_with fail);go_end0;exact⟨_,Q.nil,.inl ⟨H.out.e0,rfl,H.out⟩⟩
def rZ (n:Nat):bz 307 fk 90 n:=by
 intro X r d W h hr G;have M:=aW h;have S:=aW G;have Q:=mkfn;clear h G;go_enter func307,ntmps307;(go_wp2_with fail);refine bM c0 (bh M.out (by omega) (by kernel_rfl)) (λ_ _ D I Z B=>?_) λd1 _ H Y O=>?_
 ·(go_wp2_with fail);exact⟨rfl,_,(D.dead Z.out _),o3 Z B⟩
 (go_wp2_with fail);refine bM H (fh O.out (by omega)) (λ_ _ D I Z B=>?_) λd2 _ J I2 u=>?_
 ·(go_wp2_with fail);exact⟨rfl,_,(D.dead Z.out _),o3 Z B⟩
 (go_wp2_with fail);go_end0;exact⟨_,J.nil,.inl ⟨u.out.e0,rfl,u.out⟩⟩
def LS (n:Nat) (hlistA:∀k,k<n->bz 312 nM 45 k):bz 308 nO 90 n:=by
 intro X r d W h hr hm;have Y:=aW h;have HM:=aW hm;have ac:=mkfn;clear h hm;go_enter func308,ntmps308;(go_wp2_with fail);refine bM c0 (bh Y.out (by omega) (by kernel_rfl)) (λ_ _ D I Z B=>?_) λd1 _ S I1 M=>?_
 ·(go_wp2_with fail);exact⟨rfl,_,(D.dead Z.out _),o3 Z B⟩
 (go_wp2_with fail);refine(pf M.out).mono ?_;rintro e w2⟨b2,rfl,u,J⟩;have H2:=show Hid _ from M.out.below J
 have H:=show Hid _ from u .list
 clear J u;cases b2 with
 |true=>
  (go_wp2_with fail);refine bM S ((hlistA (ms (aD X.l) d1) (by have m0:=HM.out;have m1:=am aB I1.out Y.out.e0 M.out.e0;omega) X _ _ _ H2.out (by omega) (ge _)).mono (λe w' ⟨d',h1,h2⟩=>(⟨d',bI H.out (wA rfl h1),h2⟩:∃d',Ib (aD X.l) (.once (.ex .list)) _ d'/\jA X (.tuple #[]) d' e w'))) (λ_ _ D I Z B=>?_) λd3 _ C3 I3 H3=>?_
  ·(go_wp2_with fail);exact⟨rfl,_,(D.dead Z.out _),o3 Z B⟩
  (go_wp2_with fail);refine bM C3 (bh H3.out (by omega) (by kernel_rfl)) (λ_ _ D I Z B=>?_) λd4 _ C4 I4 H4=>?_
  ·(go_wp2_with fail);exact⟨rfl,_,(D.dead Z.out _),o3 Z B⟩
  (go_wp2_with fail);go_end0;exact⟨_,C4.nil,.inl ⟨H4.out.e0,rfl,H4.out⟩⟩
 |false=>
  have O:=ck S (dR H.out);(go_wp2_with fail);refine bM O (bh H2.out (by omega) (by kernel_rfl)) (λ_ _ D I Z B=>?_) λab _ Q aa G=>?_
  ·(go_wp2_with fail);exact⟨rfl,_,(D.dead Z.out _),o3 Z B⟩
  (go_wp2_with fail);go_end0;exact⟨_,Q.nil,.inl ⟨G.out.e0,rfl,G.out⟩⟩
def bz.at {f:Nat}{row:List It}{b n:Nat}(h:bz f row b n) (u:90<=b) (X:Sx) (d:D):RQ X f row n d:=λr W I H G=>h X r d W I (PI H u) G
def Fk {L:List Tv}{n:Int}{f:Tv->Bool}:qn L (dG n d) f=qn L d f:=by unfold qn cB dG;by_cases h:d.e=0<;>simp[h]
def N8 (h:ci t=32):Fl.takes t .cs=true:=by
 unfold ci at h;simp only[Fl.takes]
 repeat' (split at h)
 all_goals first|assumption|(cases h;done)
def rk (n:Nat) (H:bz 310 kG 90 n) (I:bz 309 te 90 n) (G:bz 311 kI 90 n) (hobject:bz 297 gE 95 n):PC .factor 304 n:=by
 intro X r d W h;refine(pG h).mono ?_;rintro e w'⟨rfl,S⟩;refine⟨_,_,rfl,?_,S⟩;have J:qn (aD X.l) d (λt=>Fl.takes t .cs)=Fl.takes (nx X (ps X.l d.i)) .cs:=h.hqn (by simp[Fl.takes,av]);have hd:cj (cB (aD X.l) d) .factor=M.row (nx X (ps X.l d.i)) .factor:=by rw[h.hnx];exact wU _
 generalize nx X (ps X.l d.i)=t at *;have Y:ci t=25\/ci t=26\/ci t=27\/ci t=32\/ci t=28\/ci t=0:=by unfold ci;(repeat' split)<;>simp
 rcases Y with e|e|e|e|e|e
 ·exact .inl ⟨25,_,kG,by rw[e],by simp only[lX,e];rfl,GU,rfl,H.at (by omega) X _,λd' u=>aO (m:=.factor) (by rw[hd];simp only[M.row,e];rfl) u⟩
 ·exact .inl ⟨26,_,te,by rw[e],by simp only[lX,e];rfl,Ob,rfl,I.at (by omega) X _,λd' u=>aO (m:=.factor) (by rw[hd];simp only[M.row,e];rfl) u⟩
 ·exact .inl ⟨27,_,kI,by rw[e],by simp only[lX,e];rfl,GW,rfl,G.at (by omega) X _,λd' u=>aO (m:=.factor) (by rw[hd];simp only[M.row,e];rfl) u⟩
 ·refine .inl ⟨32,_,[.fl .cs],by rw[e],by simp only[lX,e];rfl,La,rfl,λZ W1 Q O _=>JS (n:=n) Q O ?_,λd' u=>aO (m:=.factor) (by rw[hd];simp only[M.row,e];rfl) u⟩;rw[Fk,J];exact N8 e
 ·exact .inl ⟨28,_,gE,by rw[e],by simp only[lX,e];rfl,ro,rfl,hobject.at (by omega) X _,λd' u=>wA (m:=.factor) (r:=[.fl (.mt .object)]) (by rw[hd];simp only[M.row,e];rfl) (bK (aO (m:=.object) rfl u))⟩
 ·exact .inr ⟨by rw[e],by simp only[lX,e];rfl,_,sX (m:=.factor) (by rw[hd];simp only[M.row,e];rfl),rfl,by unfold eu;simp only[R5,SW];(repeat' split)<;>rfl⟩
def jV {l:List UInt8}{s:ByteArray}(h:t.is l=true) (u:s.toList=l):t.t=s:=Bv (by unfold Tv.is at h;simpa[u]using h)
def KJ (n:Nat) (I:bz 295 iE 90 n) (G:bz 296 gC 90 n):PC .kind 283 n:=by
 intro X r d W h;refine(Gl h).mono ?_;rintro e w'⟨rfl,hb⟩;refine⟨_,_,rfl,?_,hb⟩;have Z:=h.hnx;have hz:=h.e0;generalize nx X (ps X.l d.i)=t at *;have ha:∀s,(cB (aD X.l) d).elim false (wk 2 s)=wk 2 s t:=λs=>by rw[Z];cases cB (aD X.l) d<;>rfl
 have wa:wk 2 ⟨#[97,114,114,97,121]⟩ t=(t.k==2&&t.is [97,114,114,97,121]):=by rw[qv,show(ByteArray.mk #[97,114,114,97,121]).toList=[97,114,114,97,121]by decide +kernel];rfl
 have wr:wk 2 ⟨#[114,101,99,111,114,100]⟩ t=(t.k==2&&t.is [114,101,99,111,114,100]):=by rw[qv,show(ByteArray.mk #[114,101,99,111,114,100]).toList=[114,101,99,111,114,100]by decide +kernel];rfl
 have hd:cj (cB (aD X.l) d) .kind=if(t.k==2&&t.is [97,114,114,97,121])=true then .op 9 iE else if(t.k==2&&t.is [114,101,99,111,114,100])=true then .op 10 gC else .op 8 [.fl .nm]:=by
  simp only[cj,ha,wa,wr]
 cases H:(t.k==1)with
 |true=>
  have u:(t.k==2)=false:=by
   have:t.k=1:=by simpa using H
   simp[this]
  refine .inl ⟨8,_,[.fl .nm],by simp only[jO,H];rfl,by simp only[jN,H];rfl,Lc,rfl,(JT n).at (by omega) X _,λd' O=>aO (m:=.kind) (by rw[hd,u];rfl) O⟩
 |false=>
  cases u:(t.k==2&&t.is [97,114,114,97,121])with
  |true=>exact .inl ⟨9,_,iE,by simp only[jO,H,u];rfl,by simp only[jN,H,u];rfl,GY,rfl,I.at (by omega) X _,λd' O=>aO (m:=.kind) (by rw[hd,u];rfl) O⟩
  |false=>
   cases M:(t.k==2&&t.is [114,101,99,111,114,100])with
   |true=>exact .inl ⟨10,_,gC,by simp only[jO,H,u,M];rfl,by simp only[jN,H,u,M];rfl,Ds,rfl,G.at (by omega) X _,λd' O=>aO (m:=.kind) (by rw[hd,u,M];rfl) O⟩
   |false=>
    have hq:qn (aD X.l) d (λt=>Fl.takes t .nm)=false:=by
     rw[h.hqn (by simp[Fl.takes,av]),h.hnx,<-Z];exact H
    have S:qn (aD X.l) (dG 8 d) (λt=>Fl.takes t .nm)=false:=by rw[Fk];exact hq
    have Q:(dG 8 d).e=d.e/\(dG 8 d).i=d.i:=by unfold dG;rw[Or hz];exact⟨rfl,rfl⟩
    have J:(eu (aD X.l) false (dG 8 d)).e=(eu (aD X.l) false d).e/\(eu (aD X.l) false (dG 8 d)).e≠0/\(eu (aD X.l) false (dG 8 d)).i=d.i:=by
     unfold eu;simp only[R5,SW,Q.1,Q.2,Or hz]
     split
     ·exact⟨rfl,by show(120:Int)≠0;decide,by first|rfl|exact Q.2⟩
     ·exact⟨rfl,by show(121:Int)≠0;decide,by first|rfl|exact Q.2⟩
    have Y:=iC (L:=aD X.l) (d:=dG 8 d) cE;rw[S]at Y;exact .inr ⟨by simp only[jO,H,u,M];rfl,by simp only[jN,H,u,M];rfl,_,aO (m:=.kind) (by rw[hd,u,M];rfl) (aA Y (bK (nY J.2.1))),J.1,J.2.2⟩
def ki (n:Nat) (ah:bz 284 pi 90 n) (af:bz 285 nL 90 n) (Z:bz 286 fS 90 n) (ae:bz 287 kF 90 n) (ad:bz 288 kJ 90 n) (ac:bz 289 jp 90 n) (ab:bz 290 jq 90 n) (aa:bz 291 fR 90 n):PC .statement 270 n:=by
 intro X r d W h;refine(qd h).mono ?_;rintro e w'⟨rfl,hb⟩;refine⟨_,_,rfl,?_,hb⟩;have hn:=h.hnx;have hz:=h.e0;generalize nx X (ps X.l d.i)=t at *
 have hd:cj (cB (aD X.l) d) .statement=if t.k==1 then .op 14 pi else if t.k==2 then co t.t else .ref:=by
  rw[hn];cases cB (aD X.l) d<;>rfl
 have ag:(eu (aD X.l) false d).i=d.i:=by unfold eu;simp only[R5,SW];(repeat' split)<;>rfl
 cases I:(t.k==1)with
 |true=>exact .inl ⟨14,_,pi,by simp only[da,I];rfl,by simp only[cZ,I];rfl,Oc,rfl,ah.at (by omega) X _,λd' S=>aO (m:=.statement) (by rw[hd,I];rfl) S⟩
 |false=>
  cases J:(t.k==2)with
  |false=>exact .inr ⟨by simp only[da,I,J];rfl,by simp only[cZ,I,J];rfl,_,sX (m:=.statement) (by rw[hd,I,J];rfl),rfl,ag⟩
  |true=>
   cases u:t.is [115,107,105,112]with
   |true=>
    have hs:t.t=⟨#[115,107,105,112]⟩:=jV u (by decide +kernel);exact .inl ⟨13,_,nL,by simp only[da,I,J,u];rfl,by simp only[cZ,I,J,u];rfl,Lb,rfl,af.at (by omega) X _,λd' S=>aO (m:=.statement) (by rw[hd,I,J,hs];kernel_rfl) S⟩
   |false=>
    cases G:t.is [105,102]with
    |true=>
     have hs:t.t=⟨#[105,102]⟩:=jV G (by decide +kernel);exact .inl ⟨15,_,fS,by simp only[da,I,J,u,G];rfl,by simp only[cZ,I,J,u,G];rfl,wR,rfl,Z.at (by omega) X _,λd' S=>aO (m:=.statement) (by rw[hd,I,J,hs];kernel_rfl) S⟩
    |false=>
     cases H:t.is [119,104,105,108,101]with
     |true=>
      have hs:t.t=⟨#[119,104,105,108,101]⟩:=jV H (by decide +kernel);exact .inl ⟨16,_,kF,by simp only[da,I,J,u,G,H];rfl,by simp only[cZ,I,J,u,G,H];rfl,GR,rfl,ae.at (by omega) X _,λd' S=>aO (m:=.statement) (by rw[hd,I,J,hs];kernel_rfl) S⟩
     |false=>
      cases M:t.is [102,111,114]with
      |true=>
       have hs:t.t=⟨#[102,111,114]⟩:=jV M (by decide +kernel);exact .inl ⟨17,_,kJ,by simp only[da,I,J,u,G,H,M];rfl,by simp only[cZ,I,J,u,G,H,M];rfl,GX,rfl,ad.at (by omega) X _,λd' S=>aO (m:=.statement) (by rw[hd,I,J,hs];kernel_rfl) S⟩
      |false=>
       cases O:t.is [114,101,112,101,97,116]with
       |true=>
        have hs:t.t=⟨#[114,101,112,101,97,116]⟩:=jV O (by decide +kernel);exact .inl ⟨18,_,jp,by simp only[da,I,J,u,G,H,M,O];rfl,by simp only[cZ,I,J,u,G,H,M,O];rfl,Dr,rfl,ac.at (by omega) X _,λd' S=>aO (m:=.statement) (by rw[hd,I,J,hs];kernel_rfl) S⟩
       |false=>
        cases Q:t.is [114,101,116,117,114,110]with
        |true=>
         have hs:t.t=⟨#[114,101,116,117,114,110]⟩:=jV Q (by decide +kernel);exact .inl ⟨19,_,jq,by simp only[da,I,J,u,G,H,M,O,Q];rfl,by simp only[cZ,I,J,u,G,H,M,O,Q];rfl,Du,rfl,ab.at (by omega) X _,λd' S=>aO (m:=.statement) (by rw[hd,I,J,hs];kernel_rfl) S⟩
        |false=>
         cases Y:t.is [98,101,103,105,110]with
         |true=>
          have hs:t.t=⟨#[98,101,103,105,110]⟩:=jV Y (by decide +kernel);exact .inl ⟨20,_,fR,by simp only[da,I,J,u,G,H,M,O,Q,Y];rfl,by simp only[cZ,I,J,u,G,H,M,O,Q,Y];rfl,wQ,rfl,aa.at (by omega) X _,λd' S=>aO (m:=.statement) (by rw[hd,I,J,hs];kernel_rfl) S⟩
         |false=>
          have hw:co t.t=.ref:=by unfold Tv.is at u G H M O Q Y;simp only[co,u,G,H,M,O,Q,Y];rfl
          exact .inr ⟨by simp only[da,I,J,u,G,H,M,O,Q,Y];rfl,by simp only[cZ,I,J,u,G,H,M,O,Q,Y];rfl,_,sX (m:=.statement) (by rw[hd,I,J,hw];rfl),rfl,ag⟩
def pI (n:Nat) (G:bz 266 fj 90 n) (I:bz 267 fQ 90 n) (u:bz 268 fm 90 n):PD .declaration 233 n:=by
 intro X r d W h;refine(mX h).mono ?_;rintro e w'⟨rfl,Y⟩;refine⟨_,_,rfl,?_,Y⟩;have S:bk (cB (aD X.l) d) (.fn .declaration)=if(nx X (ps X.l d.i)).k==2 then((Dk.declaration).pick (nx X (ps X.l d.i))).map (λm=>.fl (.mt m))else none:=by rw[h.hnx];exact iI _ _
 generalize nx X (ps X.l d.i)=t at *
 cases H:(t.k==2)with
 |false=>exact .inr ⟨by simp only[iN,H];rfl,by simp only[iM,H];rfl,by rw[S,H];rfl⟩
 |true=>
  cases J:t.is [118,97,114]with
  |true=>exact .inl ⟨3,_,fj,.fl (.mt .variables),by simp only[iN,H,J];rfl,by simp only[iM,H,J];rfl,tz,rfl,G,by rw[S,H];simp only[Dk.pick,J];rfl,λd' Q=>aO (m:=.variables) rfl Q⟩
  |false=>
   cases M:t.is [99,111,110,115,116]with
   |true=>exact .inl ⟨4,_,fQ,.fl (.mt .constants),by simp only[iN,H,J,M];rfl,by simp only[iM,H,J,M];rfl,wP,rfl,I,by rw[S,H];simp only[Dk.pick,J,M];rfl,λd' Q=>aO (m:=.constants) rfl Q⟩
   |false=>
    cases O:t.is [112,114,111,99]with
    |true=>exact .inl ⟨5,_,fm,.fl (.mt .procedure),by simp only[iN,H,J,M,O];rfl,by simp only[iM,H,J,M,O];rfl,tB,rfl,u,by rw[S,H];simp only[Dk.pick,J,M,O];rfl,λd' Q=>aO (m:=.procedure) rfl Q⟩
    |false=>
     exact .inr ⟨by simp only[iN,H,J,M,O];rfl,by simp only[iM,H,J,M,O];rfl,by rw[S,H];simp only[Dk.pick,J,M,O];rfl⟩
def Dx (n:Nat) (M:bz 306 kH 90 n) (H:bz 307 fk 90 n) (O:bz 308 nO 90 n):PD .detail 303 n:=by
 intro X r d W h;refine(yO h).mono ?_;rintro e w'⟨rfl,Y⟩;refine⟨_,_,rfl,?_,Y⟩;have S:bk (cB (aD X.l) d) (.fn .detail)=if(nx X (ps X.l d.i)).k==6 then((Dk.detail).pick (nx X (ps X.l d.i))).map (λm=>.fl (.mt m))else none:=by rw[h.hnx];exact iI _ _
 generalize nx X (ps X.l d.i)=t at *
 cases I:(t.k==6)with
 |false=>exact .inr ⟨by simp only[iK,I];rfl,by simp only[iJ,I];rfl,by rw[S,I];rfl⟩
 |true=>
  cases u:t.is [91]with
  |true=>exact .inl ⟨29,_,kH,.fl (.mt .index),by simp only[iK,I,u];rfl,by simp only[iJ,I,u];rfl,GV,rfl,M,by rw[S,I];simp only[Dk.pick,u];rfl,λd' Q=>aO (m:=.index) rfl Q⟩
  |false=>
   cases G:t.is [46]with
   |true=>exact .inl ⟨30,_,fk,.fl (.mt .selection),by simp only[iK,I,u,G];rfl,by simp only[iJ,I,u,G];rfl,tA,rfl,H,by rw[S,I];simp only[Dk.pick,u,G];rfl,λd' Q=>aO (m:=.selection) rfl Q⟩
   |false=>
    cases J:t.is [40]with
    |true=>exact .inl ⟨31,_,nO,.fl (.mt .args),by simp only[iK,I,u,G,J];rfl,by simp only[iJ,I,u,G,J];rfl,Lf,rfl,O,by rw[S,I];simp only[Dk.pick,u,G,J];rfl,λd' Q=>aO (m:=.args) rfl Q⟩
    |false=>
     exact .inr ⟨by simp only[iK,I,u,G,J];rfl,by simp only[iJ,I,u,G,J];rfl,by rw[S,I];simp only[Dk.pick,u,G,J];rfl⟩
structure RE (n:Nat):Prop where
 r_block:bz 203 ph 40 n
 r_variables:bz 266 fj 90 n
 r_constant:bz 267 fQ 90 n
 r_procedure:bz 268 fm 90 n
 r_params:bz 282 lR 90 n
 r_typed:bz 280 gA 90 n
 r_array:bz 295 iE 90 n
 r_record:bz 296 gC 90 n
 r_body:bz 234 fT 45 n
 r_skip:bz 285 nL 90 n
 r_act:bz 284 pi 90 n
 r_branch:bz 298 lS 45 n
 r_done:bz 299 nN 90 n
 r_branches:bz 286 fS 90 n
 r_while:bz 287 kF 90 n
 r_count:bz 288 kJ 90 n
 r_repeat:bz 289 jp 90 n
 r_answer:bz 290 jq 90 n
 r_compound:bz 291 fR 90 n
 r_expr:bz 281 cO 50 n
 r_rel:bz 294 td 55 n
 r_sum:bz 302 tc 60 n
 r_term:bz 305 nK 65 n
 r_minus:bz 310 kG 90 n
 r_not:bz 309 te 90 n
 r_group:bz 311 kI 90 n
 r_object:bz 297 gE 95 n
 r_list:bz 312 nM 45 n
 r_index:bz 306 kH 90 n
 r_selection:bz 307 fk 90 n
 r_args:bz 308 nO 90 n
def OD (n:Nat):RE n:=by
 induction n using Nat.strongRecOn with
 |ind n ih=>
  have FA:∀k,k<n->PC .factor 304 k:=λk u=>rk k (ih k u).r_minus (ih k u).r_not (ih k u).r_group (ih k u).r_object
  have KA:∀k,k<n->PC .kind 283 k:=λk u=>KJ k (ih k u).r_array (ih k u).r_record
  have SA:∀k,k<n->PC .statement 270 k:=λk u=>ki k (ih k u).r_act (ih k u).r_skip (ih k u).r_branches (ih k u).r_while (ih k u).r_count (ih k u).r_repeat (ih k u).r_answer (ih k u).r_compound
  have DA:∀k,k<n->PD .detail 303 k:=λk u=>Dx k (ih k u).r_index (ih k u).r_selection (ih k u).r_args
  have Q:=CM n (hdetailA:=DA);have ad:=F6 n (hfactorA:=FA);have aq:=Nz n (hfactorA:=FA);have ac:=Gz n (hexprA:=(λk u=>(ih k u).r_expr));have ae:=rk n ad aq ac Q;have aj:=Jp n (hfactor:=ae) (hfactorA:=FA);have ar:=MW n (hterm:=aj) (htermA:=(λk u=>(ih k u).r_term));have rel:=Nk n (hsum:=ar) (hsumA:=(λk u=>(ih k u).r_sum));have aa:=K7 n (hrel:=rel) (hrelA:=(λk u=>(ih k u).r_rel));have av:=KG n (hexpr:=aa) (hexprA:=(λk u=>(ih k u).r_expr));have am:=Gt n (hlistA:=(λk u=>(ih k u).r_list));have Y:=rZ n;have args:=LS n (hlistA:=(λk u=>(ih k u).r_list));have an:=D9 n (hkindA:=KA);have ak:=Ix n (hexprA:=(λk u=>(ih k u).r_expr)) (hkindA:=KA);have ah:=Cp n (htypedA:=(λk u=>(ih k u).r_typed));have ag:=CK n (htypedA:=(λk u=>(ih k u).r_typed));have H:=rL n (htypedA:=(λk u=>(ih k u).r_typed));have O:=xg n (hexprA:=(λk u=>(ih k u).r_expr));have ap:=OF n (hobject:=Q) (hexprA:=(λk u=>(ih k u).r_expr));have af:=DI n (hexpr:=aa) (hbodyA:=(λk u=>(ih k u).r_body));have done:=Lh n (hbodyA:=(λk u=>(ih k u).r_body));have J:=xu n (hbranchA:=(λk u=>(ih k u).r_branch)) (hbodyA:=(λk u=>(ih k u).r_body));have «while»:=D4 n (hexprA:=(λk u=>(ih k u).r_expr)) (hdoneA:=(λk u=>(ih k u).r_done));have ab:=Hr n (hexprA:=(λk u=>(ih k u).r_expr)) (hdoneA:=(λk u=>(ih k u).r_done));have «repeat»:=Co n (hbodyA:=(λk u=>(ih k u).r_body)) (hexprA:=(λk u=>(ih k u).r_expr));have Z:=DO n (hexprA:=(λk u=>(ih k u).r_expr));have M:=xh n (hbodyA:=(λk u=>(ih k u).r_body));have ai:=JJ n;have S:=ki n ap ai J «while» ab «repeat» Z M;have au:=LG n (hstatement:=S) (hstatementA:=SA);have G:=sG n (hparamsA:=(λk u=>(ih k u).r_params)) (hkindA:=KA) (hblockA:=(λk u=>(ih k u).r_block));have I:=pI n H O G;have al:=Il n (hdeclaration:=I) (hbodyA:=(λk u=>(ih k u).r_body));exact⟨al,H,O,G,ag,an,ak,ah,au,ai,ap,af,done,J,«while»,ab,«repeat»,Z,M,aa,rel,ar,aj,ad,aq,ac,Q,av,am,Y,args⟩
def Pr (X:Sx) (d:D) (e:Ending) (w:World):Prop:=(d.e=0/\d.i=(aD X.l).length/\Uk e (.tuple #[])/\SD X 0 d w)\/((d.e=0->d.i<(aD X.l).length)/\e=.panicked (stop (if d.e=0 then 120 else d.e) (ps X.l d.i))/\Below X.w0.heap.size X.w0 w)
def oT {w:World}(u:d.e≠0) (G:Below X.w0.heap.size X.w0 w):Pr X d (.panicked (stop d.e (ps X.l d.i))) w:=.inr ⟨λh=>absurd h u,by rw[Eq u],G⟩
def Qd (X:Sx):Nat->List Ev:=λj=>(ql X.l j).map j9
def EO (h:dj X (0+(bu (X.l.drop 0)).length) 1 ([⟨1,1,av⟩]++(bu (X.l.drop 0)).map j9) W):SD X 1 (dG 1 (tL (Qd X))) W:=by
 rw[Mu];rw[List.drop_zero,R3]at h;refine⟨?_,rfl,RU _,rfl,by simp,by simp,?_⟩
 ·show dj X (ps X.l 0) 1 (nW X _) W;rw[ny];have:nW X ⟨0,[(1,1)],1,[],0,[⟨1,1,av⟩],Qd X⟩=[⟨1,1,av⟩]++(bu X.l).map j9:=by simp[nW]
  rw[this];exact h
 ·simp[nW,ny];omega
def ym (h:dj X 0 1 [⟨1,1,av⟩] W) :
  Sa 136 #[pg X.g] W λe w'=>∃d,Rb (aD X.l) cd (dG 1 (tL (Qd X))) d/\Pr X d e w':=by
 have ac:=mkfn;have HC:=aW (kU h (RU _) (by have:=h.hl;simp;omega));have HS:=aW λw (hw:dj X (0+(bu (X.l.drop 0)).length) 1 ([⟨1,1,av⟩]++(bu (X.l.drop 0)).map j9) w)=>EO hw
 obtain⟨d,hd⟩:=ea (dG 1 (tL (Qd X)));rw[hd]at HS ⊢;clear h hd;go_enter func136,ntmps136;(go_wp2_with fail);refine HC.out.mono ?_;rintro e w0⟨rfl,h0⟩;have H0:=show Hid _ from HS.out _ h0
 clear h0 HC HS;(go_wp2_with fail);refine(bN H0.out (by omega) (by kernel_rfl)).mono ?_;rintro e w1⟨d1,i1,o1⟩;have I:=aW i1
 rcases o1 with⟨z1,rfl,O⟩|⟨z1,rfl,O⟩
 all_goals(have H1:=aW O;have u:=aW z1;clear O i1 z1;go_wp2_with fail)
 rotate_left
 ·exact⟨rfl,_,(aA I.out (gU u.out _)),oT u.out H1.out⟩
 refine(fh H1.out (by omega)).mono ?_;rintro e w2⟨d2,i2,o2⟩;have M:=aW i2
 rcases o2 with⟨z2,rfl,Q⟩|⟨z2,rfl,Q⟩
 all_goals(have H2:=aW Q;have u:=aW z2;clear Q i2 z2;go_wp2_with fail)
 rotate_left
 ·exact⟨rfl,_,(aA I.out (aA M.out (gU u.out _))),oT u.out H2.out⟩
 refine(bh H2.out (by omega) (by kernel_rfl)).mono ?_;rintro e w3⟨d3,i3,o3⟩;have Z:=aW i3
 rcases o3 with⟨z3,rfl,h3⟩|⟨z3,rfl,h3⟩
 all_goals(have H3:=aW h3;have u:=aW z3;clear h3 i3 z3;go_wp2_with fail)
 rotate_left
 ·exact⟨rfl,_,(aA I.out (aA M.out (aA Z.out (gU u.out _)))),oT u.out H3.out⟩
 refine(aM H3.out (by omega) (by omega) (ge _) (OD (ms (aD X.l) d3)).r_block iH rfl (λd' hh=>aO (m:=.block) rfl hh)).mono ?_;rintro e w4⟨d4,i4,o4⟩;have I4:=aW i4
 rcases o4 with⟨z4,rfl,h4⟩|⟨z4,rfl,h4⟩
 all_goals(have H4:=aW h4;have u:=aW z4;clear h4 i4 z4;go_wp2_with fail)
 rotate_left
 ·exact⟨rfl,_,(aA I.out (aA M.out (aA Z.out (aA I4.out (gU u.out _))))),oT u.out H4.out⟩
 refine(bh H4.out (by omega) (by kernel_rfl)).mono ?_;rintro e w5⟨H,i5,o5⟩;have I5:=aW i5
 rcases o5 with⟨z5,rfl,S⟩|⟨z5,rfl,S⟩
 rotate_left
 ·have HP:=aW S;have u:=aW z5;clear S i5 z5;(go_wp2_with fail);exact⟨rfl,_,(aA I.out (aA M.out (aA Z.out (aA I4.out (aA I5.out (gU u.out _)))))),oT u.out HP.out⟩
 have G:=aW S;clear S i5 z5;obtain⟨ve,hs,_,_⟩:=G.out.sv.ex;obtain⟨c0,c1,c2,c3⟩:=hs.cells;have ab:=hs.lt;have IB:=show Hid _ from((aA I.out (aA M.out (aA Z.out (aA I4.out (aA I5.out oR))))):Rb (aD X.l) cd d H)
 clear hs
 by_cases J:H.i<(aD X.l).length
 ·have q1:((ps X.l H.i:Int)<X.l.length):=by have:=Al.2 J;omega
  have HR:Hid (∀V,Se w5 V->Sa 204 #[pg X.g] V λe w'=>e=.panicked (stop 120 (ps X.l H.i))/\Below X.w0.heap.size X.w0 w'):=λV hb=>(oO (G.out.below hb).sv).mono (λe w' ⟨O,Q⟩=>⟨by rw[O,Eq (by have:=Al.2 J;omega)],(G.out.below hb).sv.bel.trans (Q.mono (G.out.below hb).sv.bel.size)⟩)
  have HB:Hid (∀m,Se w5 (w5.drewN m)):=λm=>eM (gt _ _) m
  have HI:=aW J;clear J;(go_wp2_with fail)
  go_quiet (fail)
  (go_wp2_with fail);refine(HR.out _ (HB.out _)).mono ?_;rintro e w9⟨rfl,Y⟩;have aa:=aW Y;clear Y;(go_wp2_with fail);exact⟨rfl,_,IB.out,.inr ⟨λ_=>HI.out,by rw[Or G.out.e0],aa.out⟩⟩
 ·have q1:¬((ps X.l H.i:Int)<X.l.length):=(λhn:¬ps X.l H.i<X.l.length=>by omega) (λh=>J (Al.1 h));have HB:Hid (∀m,SD X 0 H (w5.drewN m)):=λm=>G.out.below (eM (gt _ _) m)
  have HI:Hid (H.i=(aD X.l).length):=by have:=G.out.il;show _=_;omega
  clear J;(go_wp2_with fail)
  go_quiet (fail)
  (go_wp2_with fail);go_end0;exact⟨_,IB.out,.inl ⟨G.out.e0,HI.out,rfl,HB.out _⟩⟩
