import Derived.Test.YtpdlohfdjiaegaaGreatDoorM13
import Derived.Test.YtpdlohfdjiaegaaGreatDoorM45
set_option linter.unusedVariables false
set_option linter.unusedSimpArgs false
namespace Go.Proofs.YtpdlohfdjiaegaaGreatDoor
open Go.RowKit
abbrev stk (s:ByteArray):List Tv:=(Lx.scn s).1.map (Lx.tv s)
def EvP (W:World) (T:List Tv) (E:List Ev) (code:Int) (r:Ending) (w':World):Prop:=
 ∃p n c p2 n2 c2,r=.returned (.tuple #[.slice p n c,.slice p2 n2 c2,.bool (decide (code=0))])/\Below W.heap.size W w'/\(code=0->Re w' (.slice p n c) E/\(∀k,(Value.slice p n c).ownBlock=some k->W.heap.size<=k)/\Rt W.heap.size w' (.slice p2 n2 c2) T)
theorem pF (s:ByteArray) (W:World) (hT:Lx.Kab W) (hs:s.size<=1000000000) (h0:(Lx.scn s).2.1≠0) :
  Da 16 #[.string s] W fun r w'=>r=.returned (.tuple #[.slice none 0 0,.slice none 0 0,.bool false])/\Below W.heap.size W w':=by
 have HA:Hid (Da 28 #[.string s] W fun e w'=>∃p n c z x y u,e=.returned (.tuple #[.slice p n c,.int .i64 z,.agg #[.int .i64 x,.int .i64 y,.int .i64 u]])/\(z != 0)=true/\Db W w'):=by
  refine (Lx.rC s W hT hs).mono ?_;rintro e w' ⟨⟨v,rfl,hr⟩,hb⟩;obtain ⟨p,c,rfl,_⟩:=hr.shape;exact ⟨p,_,c,_,_,_,_,rfl,by simp;omega,hb⟩
 clear hT hs h0
 go_enter Tryz.func16,Tryz.ntmps16
 go_wp2_with (go_at_call 28;refine HA.out.mono ?_;rintro e w1 ⟨p,n,c,z,x,y,u,rfl,q1,hb1⟩;have HB:Hid (∀o,Db W (w1.alloc o)):=(fun o=>hb1.alloc hb1.size _);clear hb1)
 refine bodyPost_ret (v:=.tuple #[.slice none 0 0,.slice none 0 0,.bool false]) (by simp [results,Tryz.f16,go_sem]) rfl ?_;exact ⟨rfl,HB.out _⟩
set_option maxHeartbeats 2000000 in
theorem fA (s:ByteArray) (W:World) (hT:Lx.Kab W) (hs:s.size<=1000000000) (h0:(Lx.scn s).2.1=0) {E:List Ev}{code:Int}{a:Nat}(hl:(stk s).length<=4194304) (hA:Alr (.live [] 0) (stk s) E code a) :
  Da 16 #[.string s] W fun r w'=>EvP W (stk s) E code r w':=by
 obtain ⟨T,hTT⟩:∃T,stk s=T:=⟨_,rfl⟩
 have HS:Hid (Da 28 #[.string s] W fun e w'=>∃p c x y u,e=.returned (.tuple #[.slice p T.length c,.int .i64 0,.agg #[.int .i64 x,.int .i64 y,.int .i64 u]])/\Rt W.heap.size w' (.slice p T.length c) T/\Below W.heap.size W w'):=by
  refine (Lx.rC s W hT hs).mono ?_;rintro e w' ⟨⟨v,rfl,hr⟩,hb⟩;rw [h0];have hr':Rt W.heap.size w' v T:=by rw [<-hTT];exact hr
  obtain ⟨p,c,rfl,_⟩:=hr'.shape;exact ⟨p,c,_,_,_,rfl,hr',hb⟩
 rw [hTT] at hl hA ⊢;have HM:Hid (Alr (.live [] 0) T E code a/\T.length<=4194304):=⟨hA,hl⟩;have HNew:Hid (∀V,Da 29 #[] V fun r w'=>r=.returned (pt V.heap.size)/\Pq (fun k=>k=V.heap.size) w' V.heap.size (.live [] 0)/\Below V.heap.size V w'/\w'.heap.size=V.heap.size+1):=pe;clear hT hs h0 hTT hl hA
 go_enter Tryz.func16,Tryz.ntmps16
 go_upto_region 4 with (go_at_call 28;refine HS.out.mono ?_;rintro e w1 ⟨pT,cT,x9,y9,u9,rfl,hRt,hb1⟩;have HR1:Hid (∀o,Rt W.heap.size (w1.alloc o) (.slice pT T.length cT) T/\Below W.heap.size W (w1.alloc o)):=(fun o=>⟨hRt.below ((Below.refl _ _).alloc (Nat.le_refl _) _),hb1.alloc hb1.size _⟩);clear hRt hb1)
 obtain ⟨V4,eV4⟩:∃V4,w1.alloc (.cells #[.int .i64 x9,.int .i64 y9,.int .i64 u9] 35)=V4:=⟨_,rfl⟩;have H4:=HR1.out (.cells #[.int .i64 x9,.int .i64 y9,.int .i64 u9] 35);rw [eV4] at H4 ⊢;have HR:Hid (Rt W.heap.size V4 (.slice pT T.length cT) T/\Below W.heap.size W V4):=H4
 have HLt:Hid (∀V,Below V4.heap.size V4 V->Lt V pT T/\Rt W.heap.size V (.slice pT T.length cT) T/\Below W.heap.size W V):=fun V hb=>by
  have h5:=H4.1.below hb;obtain ⟨ao,cap,e1,h6,_⟩:=Lt.row h5;cases e1;exact ⟨h6,h5,H4.2.trans (hb.mono H4.2.size)⟩
 clear H4 HR1 eV4 HS
 go_wp2_with fail
 refine (HNew.out _).mono ?_;rintro r w5 ⟨rfl,hq,hb,hs1⟩;obtain ⟨g,hg⟩:∃g,V4.heap.size=g:=⟨_,rfl⟩;have HI:Hid (∃S,PAI V4 V4.heap.size aJ [] (.live [] 0) S w5):=⟨_,hb,hq,dm,fun k e=>by rw [e];omega,lA _,fun k e=>by cases e⟩;rw [hg] at HI ⊢;clear hq hb hs1 hg HNew
 go_wp2_with fail
 go_loopw [9,10,11,12] (fun v i _ _ wr=>∃j:Nat,j<=T.length/\i=.int .i64 j/\Hid (∃S st E0 E1 k1,PAI V4 g v E0 st S wr/\Alr st (T.drop j) E1 code k1/\E=E0++E1/\E0.length<=30000*j)) (fun _ i _ _ _=>T.length-(intOf i).toNat)
 case atStart=>
  obtain ⟨S,hI⟩:=HI.out;exact ⟨0,Nat.zero_le _,rfl,S,_,[],E,a,hI,HM.out.1,rfl,by simp⟩
 case round=>
  obtain ⟨j,hj,rfl,HJ⟩:=hrel;obtain ⟨S,st,E0,E1,k1,hI,hR,hE,hz⟩:=HJ.out;obtain ⟨pv,cpv,hv,_⟩:=hI.re.shape;subst hv;have hTl:=HM.out.2
  by_cases hlt:j<T.length
  ·have q1:(j:Int)<T.length:=by omega
   have q0:(0:Int)<=j:=by omega
   obtain ⟨t,ht⟩:∃t,T[j]?=some t:=⟨_,List.getElem?_eq_getElem hlt⟩
   have hdr:T.drop j=t :: T.drop (j+1):=by
    obtain ⟨a1,a2⟩:=List.getElem?_eq_some_iff.1 ht;rw [List.drop_eq_getElem_cons a1,a2]
   obtain ⟨b,off,rfl,x0,x1,x2,x3,x4,x5⟩:=(HLt.out wr hI.bel).1.cell6 ht;rw [hdr] at hR;clear HJ HI hdr ht
   rcases hR.inv with ⟨ev,st',hp,hc,rfl,rfl⟩|⟨ev,st',E2,k2,hp,hR2,rfl,rfl⟩
   ·have HP:Hid (Da 30 #[pt g,.agg #[.int .u8 t.k,.string t.t,.int .i64 t.a,.int .i64 t.l,.int .i64 t.c,.int .i64 t.f]] wr fun r w'=>∃v,r=.returned (.tuple #[v,.int .i64 code])/\Pa S g wr w' v ev st'):=ng hI.pq (fun k hk=>(hI.sB k hk).2) hI.gd.ok hp;have HN:Hid (∀w' x,Pa S g wr w' x ev st'->PAJ V4 g (.slice pv E0.length cpv) x E0 ev st' w'):=fun w' x hx=>hI.call hx (dh hI.gd hp).1
    have q5:(code != 0)=true:=by simpa using hc
    have HC:Hid (code≠0):=hc;clear hI hR hp hc hE
    go_wp2_with fail
    refine HP.out.mono ?_;rintro r w6 ⟨x,rfl,hx⟩;have H6:Hid (PAJ V4 g (.slice pv E0.length cpv) x E0 ev st' w6):=HN.out _ _ hx;obtain ⟨px,cx,hxs,_⟩:=hx.re.shape;subst hxs;clear hx
    go_wp2_with fail
    obtain ⟨S2,hI2⟩:=H6.out.ex;refine bodyPost_ret (v:=.tuple #[.slice none 0 0,.slice none 0 0,.bool false]) (by simp [results,Tryz.f16,go_sem]) rfl ?_;exact ⟨none,0,0,none,0,0,by rw [decide_eq_false HC.out],(HLt.out _ hI2.bel).2.2,fun h=>absurd h HC.out⟩
   ·have HP:Hid (Da 30 #[pt g,.agg #[.int .u8 t.k,.string t.t,.int .i64 t.a,.int .i64 t.l,.int .i64 t.c,.int .i64 t.f]] wr fun r w'=>∃v,r=.returned (.tuple #[v,.int .i64 0])/\Pa S g wr w' v ev st'):=ng hI.pq (fun k hk=>(hI.sB k hk).2) hI.gd.ok hp;have HN:Hid (∀w' x,Pa S g wr w' x ev st'->PAJ V4 g (.slice pv E0.length cpv) x E0 ev st' w'):=fun w' x hx=>hI.call hx (dh hI.gd hp).1
    have hel:=(dh hI.gd hp).2.1;have HK:Hid (Alr st' (T.drop (j+1)) E2 code k2/\E=(E0++ev)++E2/\(E0++ev).length<=30000*(j+1)/\E0.length+ev.length<=1000000000000):=⟨hR2,by rw [hE,List.append_assoc],by simp;omega,by omega⟩;clear hI hR hp hE hR2 hel
    go_wp2_with fail
    refine HP.out.mono ?_;rintro r w6 ⟨x,rfl,hx⟩;have H6:Hid (PAJ V4 g (.slice pv E0.length cpv) x E0 ev st' w6):=HN.out _ _ hx;obtain ⟨px,cx,hxs,_⟩:=hx.re.shape;subst hxs;clear hx
    go_wp2_with (at_builtin;refine rz (by rfl) _ _ (by rfl) (.slice pv E0.length cpv) (.slice px ev.length cx) E0 ev (by rfl) H6.out.rv (by rfl) H6.out.rx HK.out.2.2.2 ?_;intro v3 w7 h3 k3 n3;have H7:Hid (∃S,PAI V4 g v3 (E0++ev) st' S w7):=H6.out.fin _ _ h3 k3 n3;clear h3 k3 n3)
    obtain ⟨S3,hI3⟩:=H7.out;exact ⟨⟨j+1,hlt,by go_num,S3,st',E0++ev,E2,k2,hI3,HK.out.1,HK.out.2.1,HK.out.2.2.1⟩,by simp [intOf];omega⟩
  ·obtain rfl:j=T.length:=by omega
   have q1:¬((T.length:Int)<T.length):=by omega
   rw [List.drop_length] at hR;obtain ⟨hc,rfl⟩:=hR.end;have HP:Hid (Da 31 #[pt g] wr fun r w'=>∃v,r=.returned (.tuple #[v,.int .i64 code])/\Pa S g wr w' v E1 .shut):=tF hI.pq (fun k hk=>(hI.sB k hk).2) hI.gd.ok hc;have HN:Hid (∀w' x,Pa S g wr w' x E1 .shut->PAJ V4 g (.slice pv E0.length cpv) x E0 E1 .shut w'):=fun w' x hx=>hI.call hx trivial
   have HK:Hid (E=E0++E1/\E0.length+E1.length<=1000000000000):=⟨hE,by
    have h1:E1.length<=1:=by cases hc <;> simp
    omega⟩
   clear hI hR hE hc HJ HI
   go_wp2_with fail
   refine HP.out.mono ?_;rintro r w6 ⟨x,rfl,hx⟩;have H6:Hid (PAJ V4 g (.slice pv E0.length cpv) x E0 E1 .shut w6):=HN.out _ _ hx;obtain ⟨px,cx,hxs,_⟩:=hx.re.shape;subst hxs;clear hx
   go_wp2_with (at_builtin;refine rz (by rfl) _ _ (by rfl) (.slice pv E0.length cpv) (.slice px E1.length cx) E0 E1 (by rfl) H6.out.rv (by rfl) H6.out.rx HK.out.2 ?_;intro v3 w7 h3 k3 n3;have H7:Hid (∃S,PAI V4 g v3 (E0++E1) .shut S w7):=H6.out.fin _ _ h3 k3 n3;obtain ⟨p3,c3,e3,_⟩:=h3.shape;subst e3;clear h3 k3 n3)
   obtain ⟨S7,hI7⟩:=H7.out;obtain ⟨y1,y2,y3⟩:=HLt.out _ hI7.bel;refine bodyPost_ret (v:=.tuple #[.slice p3 (E0.length+E1.length) c3,.slice pT T.length cT,.bool (code == 0)]) (by simp [results,Tryz.f16,go_sem]) rfl ?_;have e9:(code == 0)=decide (code=0):=by by_cases q:code=0 <;> simp [q]
   have e8:(E0++E1).length=E0.length+E1.length:=List.length_append;have hre:=hI7.re;have hvb:=hI7.vB;rw [e8] at hre hvb;exact ⟨_,_,_,_,_,_,by rw [e9],y3,fun h=>⟨by rw [HK.out.1];exact hre,fun k e=>Nat.le_trans HR.out.2.size (hvb k e).1,y2⟩⟩
end Go.Proofs.YtpdlohfdjiaegaaGreatDoor
namespace Go.Proofs.YtpdlohfdjiaegaaGreatDoor
open Go.RowKit
open Lw (Dc bE rt frm dep rtT rtN lsb)
open Lx (Tx Fst Fol tT Rds rep by8 kOf vw Tk)
variable {T:ByteArray}
inductive Rl:Bool->List Tv->List Tv->Prop
 |nil {b:Bool}:Rl b [] []
 |cons {b:Bool} {t t':Tv} {l l':List Tv}:t'.k=t.k->t'.t=t.t->(b=true->dN t->(t.f=0↔t'.f=0))->Rl true l l'->Rl b (t :: l) (t' :: l')
theorem zG {x:Tk}{t:Tv}{f:Nat}(h:vw T x=(t.k.toNat,t.t,f)) (hk:xf t):(Lx.tv T x).k=t.k/\(Lx.tv T x).t=t.t/\(Lx.tv T x).f=(f:Int):=by
 obtain ⟨k,_,e⟩:=hk;have h1:x.k=t.k.toNat:=congrArg Prod.fst h;have h2:T.extract x.a x.e=t.t:=congrArg (fun z=>z.2.1) h;have h3:x.f=f:=congrArg (fun z=>z.2.2) h;refine ⟨?_,h2,by show (x.f:Int)=_;rw [h3]⟩;show (x.k:Int)=_;rw [h1,e];rfl
theorem BW {gs:List (List Dc)}{l:List Tv}{u:Option Tv}(h:CPs u gs l):∀{xs:List (Nat × Nat)},GPs gs xs->u≠none->(∀t∈l,xf t)->∀ts:List Tk,ts.map (vw T)=vws xs l->Sm true gs l (ts.map (Lx.tv T))/\Rl true l (ts.map (Lx.tv T)):=by
 induction h with
 |nil=>
  intro xs hx _ _ ts ht;cases hx;have:ts=[]:=List.map_eq_nil_iff.1 ht;subst this;exact ⟨.nil,.nil⟩
 |cons c1 c2 ih=>
  rename_i u G t gs l
  intro xs hx hu hT ts ht;cases hx with
  |cons g1 g2=>
   rename_i y xs
   obtain ⟨a,b⟩:=y;cases ts with
   |nil=>cases ht
   |cons x ts=>
    rw [List.map_cons] at ht;have ht':vw T x :: ts.map (vw T)=(t.k.toNat,t.t,a) :: vws xs l:=ht;injection ht' with h1 h2
    obtain ⟨e1,e2,e3⟩:=zG h1 (hT t (List.mem_cons_self ..));obtain ⟨i1,i2⟩:=ih g2 (fun h=>by cases h) (fun z hz=>hT z (List.mem_cons_of_mem _ hz)) ts h2
    have hE:(2:Int)<=(a:Int)↔dE∈G:=by
     have hle:=g1.le;constructor
     ·intro h;exact g1.e2 (by have hle':a<=2:=hle;omega)
     ·intro h;have:a=2:=g1.he (c1.hb h);omega
    have hN:dN t->((a:Int)=0↔G.any aX=false):=by
     intro hn;constructor
     ·intro h;cases hc:G.any aX with
      |false=>rfl
      |true=>have h9:1<=a:=g1.hd hc;omega
     ·intro h
      apply Classical.byContradiction
      intro hne
      rcases g1.no (show 1<=a by omega) with h3|h3
      ·rw [h] at h3;cases h3
      ·rw [c1.nb hn] at h3;cases h3
    refine ⟨.cons e1 e2 (by rw [e3];omega) (fun _=>⟨by rw [e3];exact hE,fun hn=>by rw [e3];exact hN hn⟩) i1,.cons e1 e2 (fun _ hn=>?_) i2⟩;rw [e3,hN hn];exact c1.nf hn hu
theorem oH (s:ByteArray) (h0:(Lx.scn s).2.1=0) {E:List Ev}{a:Nat}(hA:Alr (.live [] 0) (stk s) E 0 a) :
  ∃L,bL sy0 E=some L/\frm 0 0 L=none/\∀n:Nat,(Lx.scn ⟨(Lw.eV n L).toArray⟩).2.1=0/\(∃E',Alr (.live [] 0) (stk ⟨(Lw.eV n L).toArray⟩) E' 0 a/\bL sy0 E'=some L)/\Rl false (stk s) (stk ⟨(Lw.eV n L).toArray⟩):=by
 have hT:=xC s h0;obtain ⟨gs,ge,r1,r2,r3,r4,r5⟩:=lr (stk s) [] 0 sy0 none E a hA AP rfl hT (fun x t hx=>by cases hx);refine ⟨_,r2,(by have h:=jr E iN r2;rw [List.nil_append] at h;exact h),fun n=>?_⟩;have htok:∀t∈stk s,xf t:=fun t ht=>hT.tx t ht
 generalize hl:stk s=l at hA hT r1 r2 r3 r5 htok ⊢
 cases r3 with
 |nil=>
  exfalso
  obtain ⟨hc,_⟩:=hA.end;cases hc with
  |all hK=>cases hK
 |cons c1 c2=>
  rename_i G t gs l
  obtain ⟨kt,t1,t2⟩:=htok t (List.mem_cons_self ..);have hsz:∀x∈t :: l,x.t.size≠0:=fun x hx=>by obtain ⟨k,h,_⟩:=htok x hx;have:=h.pos;omega
  obtain ⟨xs,x1,x2⟩:=yf n (.cons c1 c2) hsz r4;have htl:∀z∈l,xf z:=fun z hz=>htok z (List.mem_cons_of_mem _ hz)
  obtain ⟨b1,b2⟩:=zo c2 rfl x1 htl t1 t2
  have eT:(⟨(Lw.eV n (cO (G :: gs) (t :: l)++ge)).toArray⟩:ByteArray)=t.t++iu xs l:=by
   rw [x2,mz,wV,yd c2 x1]
  rw [eT];obtain ⟨d1,d2⟩:=Lx.qq (f:=0) t1 b1 b2;obtain ⟨T,hTT⟩:∃T,t.t++iu xs l=T:=⟨_,rfl⟩;rw [hTT] at d1 d2 ⊢;have hsc:Lx.scn T=Lx.fnd T 0 0:=rfl;have hd:(Lx.scn T).1.map (vw T)=(kOf kt t.t,t.t,0) :: vws xs l:=by rw [hsc];exact d2
  obtain ⟨x,ts,hts,hx,hts2⟩:∃x ts,(Lx.scn T).1=x :: ts/\vw T x=(kOf kt t.t,t.t,0)/\ts.map (vw T)=vws xs l:=by
   cases hc:(Lx.scn T).1 with
   |nil=>rw [hc] at hd;cases hd
   |cons x ts=>rw [hc,List.map_cons] at hd;injection hd with e1 e2;exact ⟨x,ts,rfl,e1,e2⟩
  have hkn:t.k.toNat=kOf kt t.t:=by rw [t2];rfl
  rw [<-hkn] at hx;obtain ⟨e1,e2,e3⟩:=zG hx (htok t (List.mem_cons_self ..));obtain ⟨i1,i2⟩:=BW c2 x1 (fun h=>by cases h) htl ts hts2;have hst:stk T=Lx.tv T x :: ts.map (Lx.tv T):=by show (Lx.scn T).1.map (Lx.tv T)=_;rw [hts];rfl
  rw [hst];refine ⟨by rw [hsc];exact d1,?_,.cons e1 e2 (fun h=>by cases h) i2⟩;obtain ⟨E',y1,y2⟩:=r5 (Lx.tv T x :: ts.map (Lx.tv T)) (.cons e1 e2 (by rw [e3];omega) (fun h=>by cases h) i1);exact ⟨E',y1,y2⟩
end Go.Proofs.YtpdlohfdjiaegaaGreatDoor
namespace Go.Proofs.YtpdlohfdjiaegaaGreatDoor
open Go.RowKit
variable {t:Tv}{k:Nat}{K:List It}{n:Int}{E:List Ev}{R:Ro}
theorem Az (h:Ru t k K n E R):∀{k':Nat}{R':Ro},Ru t k' K n E R'->k=k'/\R=R':=by
 induction h with
 |nil=>intro k' R' h';cases h';exact ⟨rfl,rfl⟩
 |ref hs=>
  intro k' R' h';cases h' with
  |ref _=>exact ⟨rfl,rfl⟩
  |tk h2=>rw [hs] at h2;cases h2
  |go h2 _=>rw [hs] at h2;cases h2
 |tk hs=>
  intro k' R' h';cases h' with
  |ref h2=>rw [hs] at h2;cases h2
  |tk _=>exact ⟨rfl,rfl⟩
  |go h2 _=>rw [hs] at h2;cases h2
 |go hs _ ih=>
  intro k' R' h';cases h' with
  |ref h2=>rw [hs] at h2;cases h2
  |tk h2=>rw [hs] at h2;cases h2
  |go h2 h3=>
   rw [hs] at h2;cases h2;obtain ⟨rfl,rfl⟩:=ih h3;exact ⟨rfl,rfl⟩
theorem Ay (h:Ru t k K n E R):∀{L:List It}{m:Int}{F:List Ev},R=.yes L m F->wfs K->∃o,F=E++o/\o.length<=k:=by
 induction h with
 |nil=>intro L m F h;cases h
 |ref _=>intro L m F h;cases h
 |tk hs=>intro L m F h _;cases h;exact ⟨[],by simp,Nat.le_refl _⟩
 |go hs _ ih=>
  rename_i k i K n d E o r R _
  intro L m F h hw;have hi:=hw i (List.mem_cons_self ..);obtain ⟨a1,a2,a3,a4⟩:=dV (K:=K) hs hi;obtain ⟨o2,b1,b2⟩:=ih h (dy a1 (fun j hj=>hw j (List.mem_cons_of_mem _ hj)));exact ⟨o++o2,by rw [b1,List.append_assoc],by rw [List.length_append];omega⟩
def opC (o:List Ev):Nat:=o.countP (fun e=>decide (e.k=1))
theorem qI (a b:List Ev):opC (a++b)=opC a+opC b:=List.countP_append ..
theorem vh (a:List Ev):opC a<=a.length:=List.countP_le_length
theorem uB (h:Ru t k K n E R):∀{L:List It}{m:Int}{F:List Ev},R=.yes L m F->wfs K->∃o,F=E++o/\opC o<=10:=by
 induction h with
 |nil=>intro L m F h;cases h
 |ref _=>intro L m F h;cases h
 |tk hs=>intro L m F h _;cases h;exact ⟨[],by simp,by simp [opC]⟩
 |go hs hr ih=>
  rename_i k i K n d E o r R
  intro L m F h hw;have hi:=hw i (List.mem_cons_self ..);obtain ⟨a1,a2,a3,a4⟩:=dV (K:=K) hs hi
  have soon:∀c,c<=10->dv t c i->∃o,F=E++o/\opC o<=10:=by
   intro c hc hs2;obtain ⟨k',R',hk',hR'⟩:=hs2 K n E;have hall:=Ru.go hs hr;obtain ⟨e1,e2⟩:=Az hall hR';obtain ⟨o2,b1,b2⟩:=Ay hall h hw;exact ⟨o2,b1,by have:=vh o2;omega⟩
  have pass:o=[]\/(∃e,o=[e]/\e.k≠1)->∃o,F=E++o/\opC o<=10:=by
   intro ho;obtain ⟨o2,b1,b2⟩:=ih h (dy a1 (fun j hj=>hw j (List.mem_cons_of_mem _ hj)));refine ⟨o++o2,by rw [b1,List.append_assoc],?_⟩;rw [qI]
   have:opC o=0:=by
    rcases ho with rfl|⟨e,rfl,he⟩
    ·rfl
    ·simp [opC,he]
   omega
  cases i with
  |fl x=>exact soon 8 (by omega) (kv t x)
  |lv a=>cases hs;exact pass (.inr ⟨_,rfl,by show (3:Int)≠1;decide⟩)
  |once p=>
   cases hp:Pk.pick t p with
   |none=>simp only [It.step,hp] at hs;cases hs;exact pass (.inl rfl)
   |some j=>exact soon 10 (by omega) (bv (r:=[]) (by simp [It.step,hp];exact ⟨rfl,rfl⟩) (fE hi hp))
  |again p=>
   cases hp:Pk.pick t p with
   |none=>simp only [It.step,hp] at hs;cases hs;exact pass (.inl rfl)
   |some j=>exact soon 10 (by omega) (bv (r:=[.again p]) (by simp [It.step,hp,agR];exact ⟨rfl,rfl⟩) (fE hi hp))
  |all rr=>
   obtain ⟨⟨kk,ts,rest,rfl⟩,_⟩:=hi;exact soon 1 (by omega) (bv (r:=rest.map It.fl) rfl (fF t (.wd kk ts) iB 0))
theorem va {o:List Ev}(hB:Brk o):∀{s s':List Int},cJ s o=some s'->o.length+s'.length=s.length+2*opC o:=by
 induction o with
 |nil=>intro s s' h;cases h;simp [opC]
 |cons e o ih=>
  intro s s' h;have hB':Brk o:=fun x hx=>hB x (List.mem_cons_of_mem _ hx)
  have hc:opC (e :: o)=opC o+(if e.k=1 then 1 else 0):=by unfold opC;rw [List.countP_cons];simp
  rcases hB e (List.mem_cons_self ..) with h1|h3
  ·simp only [cJ,if_pos h1] at h;have:=ih hB' h;rw [hc,if_pos h1];simp only [List.length_cons] at this ⊢;omega
  ·have h1:¬e.k=1:=by omega
   simp only [cJ,if_neg h1,if_pos h3] at h;cases s with
   |nil=>cases h
   |cons a b=>
    simp only at h
    split at h
    ·have:=ih hB' h;rw [hc,if_neg h1];simp only [List.length_cons] at this ⊢;omega
    ·cases h
theorem mG:∀(l:List Tv) (K:List It) (n:Int) (E:List Ev) (a:Nat),Alr (.live K n) l E 0 a->eU (.live K n)->E.length<=(lvs K).length+23*l.length+1
 |[],K,n,E,a,hA,hg=>by
  obtain ⟨hc,_⟩:=hA.end;cases hc with
  |all hK=>show 1<=_;omega
 |t :: l,K,n,E,a,hA,hg=>by
  rcases hA.inv with ⟨_,_,_,hc,_⟩|⟨ev,st',E2,k2,hp,hA2,rfl,rfl⟩
  ·exact absurd rfl hc
  ·obtain ⟨s,hs⟩:∃s:Sy,s.ks=lvs K:=⟨⟨(lvs K).map (fun k=>⟨k,0,false⟩),[],none,false,false,false⟩,by unfold Sy.ks;rw [List.map_map];exact List.map_id _⟩;obtain ⟨o,e,K',n',rfl,rfl,hg',hB,hn,hpl,hlen,rfl⟩:=qt hg hs hp;have h2:=mG l K' n' E2 k2 hA2 hg';have h3:=va hB hpl;rw [hs] at h3
   have h4:opC o<=11:=by
    obtain ⟨b1,b2,b3,b4,b5,hbot,hbn,hbe⟩:=cm hg;have hbo:opC (aT n)<=1:=Nat.le_trans (vh _) hbe
    generalize hee:(⟨if (t.k == 7 || t.k == 8)=true then 4 else 2,0,t⟩:Ev)=e0 at hp
    generalize hev:o++[e0]=ev0 at hp
    cases hp with
    |note hc=>
     have:o=aT n:=(List.append_inj' hev rfl).1;rw [this];omega
    |yes hc hR hkk hm=>
     obtain ⟨o2,c1,c2⟩:=uB hR rfl b1;have:=(List.append_inj' hev rfl).1;rw [this,c1,qI];omega
   rw [List.length_append,List.length_append];simp only [List.length_cons,List.length_nil] at h2 ⊢;omega
end Go.Proofs.YtpdlohfdjiaegaaGreatDoor
