import Derived.Test.YtjiepkenkcgkhaaGreatDoorM14
set_option linter.unusedVariables false
set_option linter.unusedSimpArgs false
set_option maxHeartbeats 4000000
set_option maxRecDepth 100000
namespace Go.Proofs.YtjiepkenkcgkhaaGreatDoor.Lw
open Go.Proofs.YtjiepkenkcgkhaaGreatDoor.Lx
open Go.RowKit
def ww:Dc:=⟨6,bE,0,0,false⟩
theorem J4 (d:Dc):decide ((mD [ww,d]).2≠1)=rt d:=by
 have h0:rt ww=true:=by decide +kernel
 have hd:0<=1+dh d.k:=by unfold dh;split;omega;split <;> omega
 have e2:cy 0 0 [ww,d]=if rt d=true/\0<=1+dh d.k then cy (1+dh d.k) 2 [] else some 1:=by
  have:cy 0 0 [ww,d]=if rt ww=true/\0<=0+dh ww.k then cy (0+dh ww.k) 1 [d] else some 0:=rfl
  rw [this,IO ⟨h0,by decide⟩];rfl
 have key:(mD [ww,d]).2=1↔rt d=false:=by
  rw [show mD [ww,d]=NL (cy 0 0 [ww,d]) from F1 (by simp),e2];cases hr:rt d with
  |false=>rw [Eq (by simp)];simp [NL]
  |true=>
   rw [IO ⟨rfl,hd⟩];have:cy (1+dh d.k) 2 []=if 0<1+dh d.k then some 2 else none:=rfl
   rw [this]
   by_cases h:0<1+dh d.k
   ·rw [IO h];simp [NL]
   ·rw [Eq h];simp [NL]
 cases hr:rt d with
 |false=>exact QX (fun h=>h (key.2 hr))
 |true=>exact QW (fun h=>by rw [key.1 h] at hr;cases hr)
theorem Ji (w:World) (b:Nat) (d:Dc) (ht:d.t.size<=9223372036854775807) (h:w.heap[b]?=some (.cells #[.int .u8 6,.string ⟨#[]⟩,.int .i64 0,.int .i64 0,.bool false,.int .u8 d.k,.string d.t,.int .i64 d.b,.int .i64 d.i,.bool d.e] 71 (0,0))):Lay w (some ⟨b,0,none⟩) [ww,d]:=by
 intro j x hx
 match j,hx with
 |0,hx=>cases hx;exact ⟨QK _,b,0,rfl,af h rfl,af h rfl,af h rfl,af h rfl,af h rfl⟩
 |1,hx=>cases hx;exact ⟨ht,b,0,rfl,af h rfl,af h rfl,af h rfl,af h rfl,af h rfl⟩
 |j+2,hx=>simp at hx
theorem wO (d:Dc) (ht:d.t.size<=9223372036854775807) (w:World):Ra 33 #[d.v] w fun e w'=>e=.returned (.bool (rt d))/\Below w.heap.size w w':=by
 have HC:Hid (∀W b,W.heap[b]?=some (.cells #[.int .u8 6,.string ⟨#[]⟩,.int .i64 0,.int .i64 0,.bool false,.int .u8 d.k,.string d.t,.int .i64 d.b,.int .i64 d.i,.bool d.e] 71 (0,0))->Ra 79 #[.slice (some ⟨b,0,none⟩) 2 2] W fun e w'=>e=.returned (.tuple #[.int .i64 (mD [ww,d]).1,.int .i64 (mD [ww,d]).2])/\Below W.heap.size W w'):=fun W b h=>Cj _ [ww,d] 2 W (Ji W b d ht h) (by simp)
 have e:=J4 d;rw [<-e];have hb:=M5 [ww,d]
 generalize (mD [ww,d]).1=k1 at *
 generalize (mD [ww,d]).2=k2 at *
 clear e ht;obtain ⟨dk,dt,db,di,de⟩:=d
 dsimp only [Dc.v] at *
 have hs1:(w.alloc (.cells #[.int .u8 dk,.string dt,.int .i64 db,.int .i64 di,.bool de] 71)).heap.size=w.heap.size+1:=QL _ _;have hbd:∀o1 o2 w1,Below ((w.alloc o1).alloc o2).heap.size ((w.alloc o1).alloc o2) w1->Below w.heap.size w w1:=fun o1 o2 w1 h=>(((hH _ w).alloc (gt _) o1).alloc (by rw [QL];omega) o2).trans (h.mono (by rw [QL,QL];omega))
 have HB:Hid (∀o1 o2 w1,Below ((w.alloc o1).alloc o2).heap.size ((w.alloc o1).alloc o2) w1->Below w.heap.size w w1):=hbd;clear hbd
 go_enter Tryz.func33,Tryz.ntmps33
 go_wp2_with (go_at_call 79;refine (HC.out _ _ (by rw [<-hs1];exact au _ _)).mono ?_;rintro e w1 ⟨rfl,hb1⟩)
 go_ret
 exact ⟨by simp [bne,Bool.beq_eq_decide_eq],HB.out _ _ _ hb1⟩
theorem qV (ao:Option Addr) (l:List Dc) (cap:Nat) (w:World) (hL:Lay w ao l) (hn:l.length<=9223372036854775807) :
  Ra 15 #[.slice ao l.length cap] w fun e w'=>e=.returned (.bool (decide (cy 0 0 l=none)))/\Below w.heap.size w w':=by
 obtain ⟨R,hR⟩:∃R,cy 0 0 l=R:=⟨_,rfl⟩;have HR0:Hid (cy 0 0 l=R):=hR;rw [hR];clear hR;have HL:Hid (Lay w ao l):=hL;clear hL
 go_enter Tryz.func15,Tryz.ntmps15
 go_wp2_with fail
 go_loopw [3,8] (fun o j wr=>∃(k:Nat) (z:Int),k<=l.length/\o=.int .i64 z/\j=.int .i64 k/\0<=z/\z<=k/\Hid (cy z k (l.drop k)=R/\Below w.heap.size w wr)) (fun _ j _=>l.length-(intOf j).toNat)
 case atStart=>exact ⟨0,0,by omega,rfl,rfl,by omega,by omega,HR0.out,hH _ _⟩
 case round=>
  obtain ⟨k,z,hk,rfl,rfl,hz0,hz1,HI⟩:=hrel
  by_cases hlt:k<l.length
  ·have q1:(k:Int)<l.length:=by omega
   obtain ⟨d,hd⟩:∃d,l[k]?=some d:=⟨_,Pi hlt⟩;obtain ⟨ht,b,off,rfl,c0,c1,c2,c3,c4⟩:=(HL.out.below HI.out.2) k d hd
   have HS:Hid ((if rt d=true/\0<=z+dh d.k then cy (z+dh d.k) (k+1) (l.drop (k+1)) else some k)=R):=by
    show _=_;rw [<-kH hd];exact HI.out.1
   have HB:Hid (Rc w wr):=HI.out.2;have HR:Hid (∀W,Ra 33 #[d.v] W fun x w'=>x=.returned (.bool (rt d))/\Rc W w'):=fun W=>wO d ht W
   clear HI hd;obtain ⟨dk,dt,db,di,de⟩:=d;simp only [Dc.v] at HR;simp only at c0 c1 c2 c3 c4 HS ht
   generalize rt ⟨dk,dt,db,di,de⟩=r at *
   have HX:Hid (r=true->0<=z+dh dk->cy (z+dh dk) (k+1) (l.drop (k+1))=R):=fun h1 h2=>by rw [<-HS.out,IO ⟨h1,h2⟩]
   have HY:Hid (¬(r=true/\0<=z+dh dk)->decide (R=none)=false):=fun h=>by rw [<-HS.out,Eq h];rfl
   clear HS
   have HA:Hid (∀W w1,W=wr.alloc (.cells #[.int .u8 dk,.string dt,.int .i64 db,.int .i64 di,.bool de] 71)->Rc W w1->Rc w w1):=fun W w1 hW h=>by
    subst hW;exact (HB.out.alloc HB.out.size _).trans (h.mono (by rw [QL];have:=HB.out.size;omega))
   by_cases k6:dk=6
   ·subst k6;have e6:z+dh 6=z+1:=rfl;rw [e6] at HX HY;cases r
    ·have HQ:Hid (decide (R=none)=false):=HY.out (by simp);clear HX HY
     go_wp2_with (go_at_call 33;refine (HR.out _).mono ?_;rintro e w1 ⟨rfl,hb1⟩)
     all_goals (go_ret;rw [HQ.out];exact ⟨rfl,HA.out _ _ rfl hb1⟩)
    ·have HQ:Hid (cy (z+1) (k+1) (l.drop (k+1))=R):=HX.out rfl (by omega);clear HX HY
     go_wp2_with (go_at_call 33;refine (HR.out _).mono ?_;rintro e w1 ⟨rfl,hb1⟩)
     exact ⟨⟨k+1,z+1,hlt,by go_num,by go_num,by omega,by omega,HQ.out,HA.out _ _ rfl hb1⟩,by simp [intOf];omega⟩
   by_cases k7:dk=7
   ·subst k7;have e6:z+dh 7=z-1:=rfl;rw [e6] at HX HY
    by_cases hz:0<z
    ·cases r
     ·have HQ:Hid (decide (R=none)=false):=HY.out (by simp);clear HX HY
      go_wp2_with (go_at_call 33;refine (HR.out _).mono ?_;rintro e w1 ⟨rfl,hb1⟩)
      all_goals (go_ret;rw [HQ.out];exact ⟨rfl,HA.out _ _ rfl hb1⟩)
     ·have HQ:Hid (cy (z-1) (k+1) (l.drop (k+1))=R):=HX.out rfl (by omega);clear HX HY
      go_wp2_with (go_at_call 33;refine (HR.out _).mono ?_;rintro e w1 ⟨rfl,hb1⟩)
      exact ⟨⟨k+1,z-1,hlt,by go_num,by go_num,by omega,by omega,HQ.out,HA.out _ _ rfl hb1⟩,by simp [intOf];omega⟩
    ·obtain rfl:z=0:=by omega
     have HQ:Hid (decide (R=none)=false):=HY.out (by omega);clear HX HY
     go_wp2_with (go_at_call 33;refine (HR.out _).mono ?_;rintro e w1 ⟨rfl,hb1⟩)
     all_goals (go_ret;rw [HQ.out];exact ⟨rfl,HA.out _ _ rfl (hH _ _)⟩)
   ·have e6:z+dh dk=z:=by simp [dh,k6,k7]
    rw [e6] at HX HY;cases r
    ·have HQ:Hid (decide (R=none)=false):=HY.out (by simp);clear HX HY
     go_wp2_with (go_at_call 33;refine (HR.out _).mono ?_;rintro e w1 ⟨rfl,hb1⟩)
     all_goals (go_ret;rw [HQ.out];exact ⟨rfl,HA.out _ _ rfl hb1⟩)
    ·have HQ:Hid (cy z (k+1) (l.drop (k+1))=R):=HX.out rfl (by omega);clear HX HY
     go_wp2_with (go_at_call 33;refine (HR.out _).mono ?_;rintro e w1 ⟨rfl,hb1⟩)
     exact ⟨⟨k+1,z,hlt,by go_num,by go_num,by omega,by omega,HQ.out,HA.out _ _ rfl hb1⟩,by simp [intOf];omega⟩
  ·obtain rfl:k=l.length:=by omega
   have q1:¬((l.length:Int)<l.length):=by omega
   have he:=HI.out.1;rw [zG (gt _)] at he;have HB:Hid (Rc w wr):=HI.out.2
   have HQ:Hid (decide (R=none)=(z == 0)):=by
    show _=_
    rw [<-he]
    by_cases hz:0<z
    ·rw [IO hz];have:¬z=0:=by omega
     simp [this]
    ·obtain rfl:z=0:=by omega
     rfl
   clear HI he
   go_wp2_with fail
   go_ret
   rw [HQ.out];exact ⟨rfl,HB.out⟩
theorem qL (n:Nat):∀(l:List Dc) (ms:List Nat) (p:Pr) (k:Nat) (d:Dc) (m:Nat),l[k]?=some d->ms[k]?=some m->puts n (l.take (k+1)) (ms.take (k+1)) p=put n d m (puts n (l.take k) (ms.take k) p)
 |[],ms,p,k,d,m,h,_=>by simp at h
 |x :: l,[],p,k,d,m,_,h=>by simp at h
 |x :: l,y :: ms,p,0,d,m,h1,h2=>by
  simp at h1 h2;subst h1 h2;simp [puts]
 |x :: l,y :: ms,p,k+1,d,m,h1,h2=>by
  have:=qL n l ms (put n x y p) k d m (by simpa using h1) (by simpa using h2)
  simpa [puts] using this
def GG (n:Nat) (l:List Dc) (k:Nat):Pr:=puts n (l.take k) ((eF l).1.take k) ql
theorem uF {n:Nat}{l:List Dc}{k:Nat}{d:Dc}(h:l[k]?=some d):∃m,(eF l).1[k]?=some m/\m<=4097/\GG n l (k+1)=put n d m (GG n l k):=by
 have hk:=(QT.1 h).1;obtain ⟨m,hm⟩:∃m,(eF l).1[k]?=some m:=⟨_,Pi (by rw [kx];exact hk)⟩;exact ⟨m,hm,(xA l).1 m (RU hm),qL n l _ ql k d m h hm⟩
theorem Iy (n:Nat) (l:List Dc):(GG n l l.length).sk.out=ik n l:=by
 unfold GG ik;rw [RQ,RK (by rw [kx];exact gt _)]
theorem CM (l:List Dc) (k:Nat):qc (l.take k)<=qc l:=by
 unfold qc
 have:(l.map ud).sum=((l.take k).map ud).sum+((l.drop k).map ud).sum:=by
  rw [<-Vh,<-Su,RJ]
 omega
theorem DW {n:Nat}{l:List Dc}(hr:∀d∈l,rt d=true) (k:Nat):Bp (GG n l k) (qc l):=by
 have:=rZ (n:=n) (l.take k) ((eF l).1.take k) ql 0 (fun d hd=>hr d (Un hd)) QE;exact this.mono (by have:=CM l k;omega)
theorem oR {n:Nat}{l:List Dc}(hf:cy 0 0 l=none):∀k:Nat,k<=l.length->∃o:Int,0<=o/\o<=k/\((GG n l k).ar.length:Int)=o/\cy o k (l.drop k)=none
 |0,_=>⟨0,Sn _,Sn _,by simp [GG,puts,ql],by simpa using hf⟩
 |k+1,hk=>by
  obtain ⟨o,h0,h1,h2,h3⟩:=oR hf k (by omega);obtain ⟨d,hd⟩:∃d,l[k]?=some d:=⟨_,Pi (by omega)⟩;obtain ⟨m,_,_,e⟩:=uF (n:=n) hd;rw [kH hd] at h3
  split at h3
  ·rename_i hc
   refine ⟨o+dh d.k,hc.2,?_,?_,h3⟩
   ·have:dh d.k<=1:=by unfold dh;split;omega;split <;> omega
    omega
   ·rw [e];exact DT hc.1 h2 hc.2
  ·cases h3
theorem Bc {n:Nat}{l:List Dc}(hf:cy 0 0 l=none) {k:Nat}{d:Dc}(hd:l[k]?=some d):d.k=7->(GG n l k).ar≠[]:=by
 intro h7 hn;have hk:=(QT.1 hd).1;obtain ⟨o,h0,h1,h2,h3⟩:=oR (n:=n) hf k (by omega);rw [kH hd] at h3
 split at h3
 ·rename_i hc
  have:=hc.2;rw [h7,show dh 7=-1 from rfl] at this;rw [hn] at h2;simp at h2;omega
 ·cases h3
theorem DX {w2 w3:World}{gs n:Nat}(hT:jF w2) (ha:Ae (fun _=>0) 1 w2 w3 gs wI):∃own,PS w2.heap.size w2 own (w3.alloc (.cells (ID n gs ⟨0,false,false⟩ (.slice none 0 0) false) 68)) w3.heap.size gs n ql:=by
 obtain ⟨own3,e1,e2,e3⟩:=ha;have hb:Below w3.heap.size w3 (w3.alloc (.cells (ID n gs ⟨0,false,false⟩ (.slice none 0 0) false) 68)):=(hH _ _).alloc (gt _) _;have hs3:=e2.size;have hf:Fr 2 own3 (fun k=>if k=w3.heap.size then 2 else own3 k) w3 (w3.alloc (.cells (ID n gs ⟨0,false,false⟩ (.slice none 0 0) false) 68)):=⟨hb.os,hb.tape,hb.output,hb.size,fun k hk _=>hb.block k hk,fun k hk=>Eq (by omega)⟩;refine ⟨fun k=>if k=w3.heap.size then 2 else own3 k,e1.fr (by omega) ?_ hf,?_,?_,gt _,e3.kept hf (by omega),⟨.slice none 0 0,au _ _,RR _ _ _ _,fun k h=>by cases h⟩,IO rfl⟩
 ·intro k hk;rw [QL] at hk;show (if k=w3.heap.size then 2 else own3 k)=0;rw [Eq (by omega)];exact e1.nf k (by omega)
 ·intro k hk;show (if k=w3.heap.size then 2 else own3 k)=0;rw [Eq (by omega)];exact e2.old k hk
 ·exact (e2.below (gt _) (fun _ _=>rfl) (by omega)).trans (hb.mono hs3)
theorem DZ (n:Nat) (hn1:1<=n) (hn2:n<=4096) (ao:Option Addr) (l:List Dc) (cap:Nat) (w:World) (hL:Lay w ao l) (hT:jF w) (hlen:l.length<=100000000) (hU:qc l<=2147483647) (hf:cy 0 0 l=none) :
  Ra 10 #[.int .i64 n,.slice ao l.length cap] w fun e w'=>e=.returned (.tuple #[.string ⟨(ik n l).toArray⟩,.int .i64 0])/\Below w.heap.size w w':=by
 have hrt:=sQ l 0 0 hf;have q0:¬((n:Int)<1):=by omega
 have q1:¬((4096:Int)<n):=by omega
 have HM:Hid (Ra 15 #[.slice ao l.length cap] w fun e w'=>e=.returned (.bool true)/\Below w.heap.size w w'):=by
  have:=qV ao l cap w hL (by omega);rw [hf] at this;exact this
 have HN:Hid (∀W,Below w.heap.size w W->Ra 16 #[.slice ao l.length cap] W fun e w'=>e=.returned (.slice (some ⟨W.heap.size,0,none⟩) l.length l.length)/\w'.heap[W.heap.size]?=some (.cells (ni (eF l).1).toArray 3 (0,0))/\Below W.heap.size W w'):=fun W hW=>Bs ao l cap W (hL.below hW) (hT.below hW) hlen hf
 have HS:Hid (∀W,Below w.heap.size w W->Ra 17 #[] W fun e w'=>e=.returned (.pointer (some ⟨W.heap.size,0,none⟩))/\Ae (fun _=>0) 1 W w' W.heap.size wI):=fun W hW=>Mp _ 1 W ⟨fun _ _=>rfl,hT.below hW,rfl⟩ (by omega)
 have HL:Hid (Lay w ao l/\jF w):=⟨hL,hT⟩;clear hL hT
 go_enter Vq,Vi
 go_wp2_with fail
 refine HM.out.mono ?_;rintro e w1 ⟨rfl,hb1⟩
 go_wp2_with fail
 refine (HN.out w1 hb1).mono ?_;rintro e w2 ⟨rfl,hnd,hb2⟩;have HB2:Hid (Below w.heap.size w w2):=hb1.trans (hb2.mono hb1.size);obtain ⟨nb,hnb⟩:∃nb,w1.heap.size=nb:=⟨_,rfl⟩;rw [hnb] at hnd ⊢;have HND:Hid (w2.heap[nb]?=some (.cells (ni (eF l).1).toArray 3 (0,0))):=hnd;clear hnd hb2 hb1 hnb HM HN
 go_wp2_with fail
 refine (HS.out w2 HB2.out).mono ?_;rintro e w3 ⟨rfl,ha⟩;obtain ⟨own0,hp0⟩:=DX (n:=n) (HL.out.2.below HB2.out) ha;have HP0:Hid (∃own,PS w2.heap.size w2 own (w3.alloc (.cells (ID n w2.heap.size ⟨0,false,false⟩ (.slice none 0 0) false) 68)) w3.heap.size w2.heap.size n ql):=⟨own0,hp0⟩;obtain ⟨gs,hgs⟩:∃gs,w2.heap.size=gs:=⟨_,rfl⟩;obtain ⟨g,hg⟩:∃g,w3.heap.size=g:=⟨_,rfl⟩;rw [hgs,hg] at HP0;clear ha hp0 HS
 go_wp2_with fail
 have hbs:gs<=w2.heap.size:=by omega
 go_loopw [26] (fun i wr=>∃(k:Nat),k<=l.length/\i=.int .i64 k/\Hid (∃own,PS gs w2 own wr g gs n (GG n l k))) (fun i _=>l.length-(intOf i).toNat)
 case atStart=>exact ⟨0,QK _,rfl,HP0.out⟩
 case round=>
  obtain ⟨k,hk,rfl,HI⟩:=hrel
  by_cases hlt:k<l.length
  ·have q2:(k:Int)<l.length:=by omega
   have q3:(0:Int)<=k:=by omega
   obtain ⟨d,hd⟩:∃d,l[k]?=some d:=⟨_,Pi hlt⟩;obtain ⟨own,hps⟩:=HI.out;have hLr:Lay wr ao l:=(HL.out.1.below HB2.out).below (by rw [hgs];exact hps.bel);obtain ⟨ht,b,off,rfl,c0,c1,c2,c3,c4⟩:=hLr k d hd;obtain ⟨m,hm,hm4,hpe⟩:=uF (n:=n) hd;have hrd:=hrt d (RU hd);obtain ⟨o,ho0,ho1,ho2,_⟩:=oR (n:=n) hf k hk;have hnb:wr.heap[nb]?=some (.cells (ni (eF l).1).toArray 3 (0,0)):=(hps.bel.block nb (by have:=aq HND.out;omega)).trans HND.out;obtain ⟨b1,b2,b3,b4,b5⟩:=hps.box (.cells #[.int .u8 d.k,.string d.t,.int .i64 d.b,.int .i64 d.i,.bool d.e] 71);obtain ⟨W1,hW1⟩:∃W1,wr.alloc (.cells #[.int .u8 d.k,.string d.t,.int .i64 d.b,.int .i64 d.i,.bool d.e] 71)=W1:=⟨_,rfl⟩;rw [hW1] at b1 b2 b4 b5
   have hcell:∀V:World,W1.heap.size<=V.heap.size->V.heap[wr.heap.size]?=W1.heap[wr.heap.size]?->V.heap[nb]?=W1.heap[nb]?->(V.cell? ⟨wr.heap.size,0,none⟩=some (.int .u8 d.k)/\V.cell? ⟨wr.heap.size,1,none⟩=some (.string d.t)/\V.cell? ⟨wr.heap.size,2,none⟩=some (.int .i64 d.b)/\V.cell? ⟨wr.heap.size,3,none⟩=some (.int .i64 d.i)/\V.cell? ⟨wr.heap.size,4,none⟩=some (.bool d.e)/\V.cell? ⟨nb,k,none⟩=some (.int .i64 m)):=by
    intro V _ e1 e2;have a1:=e1.trans b2;have a2:V.heap[nb]?=some (.cells (ni (eF l).1).toArray 3 (0,0)):=e2.trans (by rw [<-hW1];exact aI hnb _);exact ⟨af a1 rfl,af a1 rfl,af a1 rfl,af a1 rfl,af a1 rfl,af a2 (by simp [ni,hm])⟩
   have HPUT:Hid (∀V,V=W1.drew->Ra 18 #[.pointer (some ⟨g,0,none⟩),.agg #[.int .u8 d.k,.string d.t,.int .i64 d.b,.int .i64 d.i,.bool d.e],.int .i64 m] V fun e w'=>e=.returned (.tuple #[])/\Hid (∃own,PS gs w2 own w' g gs n (GG n l (k+1)))/\(w'.cell? ⟨wr.heap.size,0,none⟩=some (.int .u8 d.k)/\w'.cell? ⟨wr.heap.size,1,none⟩=some (.string d.t)/\w'.cell? ⟨wr.heap.size,2,none⟩=some (.int .i64 d.b)/\w'.cell? ⟨wr.heap.size,3,none⟩=some (.int .i64 d.i)/\w'.cell? ⟨wr.heap.size,4,none⟩=some (.bool d.e)/\w'.cell? ⟨nb,k,none⟩=some (.int .i64 m))):=by
    intro V hV;subst hV;have hd1:=b1.below (hH _ W1).drew;have:=Iu hd1 (DW hrt k) (by omega) m (by omega) hn2 (by omega) d hrd (Bc hf hd);refine this.mono ?_;rintro e w' ⟨rfl,own',p1,p2,p3⟩;rw [<-hpe] at p1;have x1:=p2 wr.heap.size (aq b2) b3;have hnl:nb<W1.heap.size:=by have:=aq hnb;have:=b5;omega
    have x2:w'.heap[nb]?=W1.heap[nb]?:=(p1.bel.block nb (by have:=aq HND.out;omega)).trans (b1.bel.block nb (by have:=aq HND.out;omega)).symm;exact ⟨rfl,⟨own',p1⟩,hcell w' p3 x1.1 x2⟩
   have HC1:Hid (W1.cell? ⟨wr.heap.size,0,none⟩=some (.int .u8 d.k)/\W1.cell? ⟨wr.heap.size,1,none⟩=some (.string d.t)/\W1.cell? ⟨wr.heap.size,2,none⟩=some (.int .i64 d.b)/\W1.cell? ⟨wr.heap.size,3,none⟩=some (.int .i64 d.i)/\W1.cell? ⟨wr.heap.size,4,none⟩=some (.bool d.e)/\W1.cell? ⟨nb,k,none⟩=some (.int .i64 m)):=hcell W1 (gt _) rfl rfl;have HW1:Hid (wr.alloc (.cells #[.int .u8 d.k,.string d.t,.int .i64 d.b,.int .i64 d.i,.bool d.e] 71)=W1):=hW1;clear HI hps hLr hpe hrd ho0 ho1 ho2 hnb b1 b2 b3 b4 b5 hW1 hcell hd hm
   go_wp2_with fail
   rw [HW1.out]
   go_region_held3 (fun w'=>w'.cell? ⟨wr.heap.size,0,none⟩=some (.int .u8 d.k)/\w'.cell? ⟨wr.heap.size,1,none⟩=some (.string d.t)/\w'.cell? ⟨wr.heap.size,2,none⟩=some (.int .i64 d.b)/\w'.cell? ⟨wr.heap.size,3,none⟩=some (.int .i64 d.i)/\w'.cell? ⟨wr.heap.size,4,none⟩=some (.bool d.e)/\w'.cell? ⟨nb,k,none⟩=some (.int .i64 m)) (first|assumption|(exact HC1.out)|go_keep) (first|(go_at_call 18;refine (HPUT.out _ rfl).mono ?_;rintro e w4 ⟨rfl,HP4,HS4⟩))
   all_goals (
    go_wp2_with fail
    exact ⟨⟨k+1,hlt,by go_num,HP4.out⟩,by simp [intOf];omega⟩)
  ·obtain rfl:k=l.length:=by omega
   have q2:¬((l.length:Int)<l.length):=by omega
   obtain ⟨own,hps⟩:=HI.out;have c1:=hps.c1
   have HT:Hid (Ra 19 #[.pointer (some ⟨gs,0,none⟩)] wr fun e w'=>e=.returned (.string ⟨(ik n l).toArray⟩)/\Below w.heap.size w w'):=by
    have hbd:=DW (n:=n) hrt l.length;refine (Hd hps.sk hps.en (by omega) (by have:=hbd.out;omega)).mono ?_;rintro e w' ⟨rfl,ha⟩;obtain ⟨own',p1,_⟩:=hps.sink ha;rw [Iy];refine ⟨rfl,HB2.out.trans ?_⟩;have:=p1.bel;exact this.mono (by have:=HB2.out.size;omega)
   clear HI hps
   go_wp2_with (go_at_call 19;refine HT.out.mono ?_;rintro e w5 ⟨rfl,hb5⟩)
   go_ret2
   exact ⟨rfl,hb5⟩
theorem Bf (n:Int) (ao:Option Addr) (l:List Dc) (cap:Nat) (w:World) (hL:Lay w ao l) (hT:jF w) (hlen:l.length<=100000000) (hU:qc l<=2147483647) :
  Ra 10 #[.int .i64 n,.slice ao l.length cap] w fun e w'=>e=.returned (.tuple #[.string (rD n l).1,.int .i64 (rD n l).2])/\Below w.heap.size w w':=by
 by_cases hn:n<1\/4096<n
 ·have e:rD n l=(⟨#[]⟩,1):=IO hn;rw [e]
  by_cases h0:n<1
  ·have q:decide (n<1)=true:=by simp;omega
   clear hn hL hT
   go_enter Vq,Vi
   go_wp2_with fail
   go_ret2
   exact ⟨rfl,hH _ _⟩
  ·have h1:4096<n:=by omega
   clear hn hL hT
   go_enter Vq,Vi
   go_wp2_with fail
   go_ret2
   exact ⟨rfl,hH _ _⟩
 ·by_cases hf:cy 0 0 l=none
  ·have e:rD n l=(⟨(ik n.toNat l).toArray⟩,0):=by unfold rD;rw [Eq hn,Eq (by simp [hf])]
   rw [e];have:=DZ n.toNat (by omega) (by omega) ao l cap w hL hT hlen hU hf;rw [show ((n.toNat:Nat):Int)=n by omega] at this;exact this
  ·have e:rD n l=(⟨#[]⟩,70):=by unfold rD;rw [Eq hn,IO hf]
   rw [e];have h0:¬n<1:=by omega
   have h1:¬4096<n:=by omega
   have HM:=qV ao l cap w hL (by omega);rw [QX hf] at HM;clear hn hL hT
   go_enter Vq,Vi
   go_wp2_with (go_at_call 15;refine HM.mono ?_;rintro e w1 ⟨rfl,hb1⟩)
   go_ret2
   exact ⟨rfl,hb1⟩
end Go.Proofs.YtjiepkenkcgkhaaGreatDoor.Lw
