import Derived.Test.YtnljjdhodelhdaaGreatDoorM39
set_option linter.unusedVariables false
set_option linter.unusedSimpArgs false
set_option maxHeartbeats 4000000
set_option maxRecDepth 100000
namespace Go.Proofs.YtnljjdhodelhdaaGreatDoor
open Go.RowKit
theorem LX {a b:ByteArray}(h:a.toList=b.toList):a=b:=by
 rw [SO,SO] at h;have:=SU.1 h;cases a;cases b;simp_all
theorem yI (a b:ByteArray):(a.toList == b.toList)=decide (a=b):=by
 by_cases e:a=b
 ·subst e;simp
 ·have:¬a.toList=b.toList:=fun h=>e (LX h)
  simp [e,this]
theorem Lv {n:aQ}(h:mQ n<=100000000):n.c.length<=100000000:=by
 obtain ⟨k,d,c⟩:=n
 have:∀c:List aQ,c.length<=jT c:=by
  intro c
  induction c with
  |nil=>simp
  |cons x r ih=>
   have:0<mQ x:=by obtain ⟨a,b,e⟩:=x;simp [mQ]
   simp only [jT,List.length_cons];omega
 have:=this c;simp only [mQ] at h;show c.length<=_;omega
theorem EP {c:List aQ}{x:aQ}(h:x∈pl c):x∈c:=(VB.1 h).1
theorem In (a b:aQ) (hba:mQ a<=100000000) (hbb:mQ b<=100000000) (IH:∀x y,x∈a.c->y∈b.c->PF x y):PF a b:=by
 intro va vb W p ha hb hp;obtain ⟨ao,ca,rfl,q1,q2,q3,q4⟩:=ha;obtain ⟨bo,cb,rfl,q1',q2',q3',q4'⟩:=hb;have hla:=Lv hba;have hlb:=Lv hbb;obtain ⟨k,d,c⟩:=a;obtain ⟨k2,d2,c2⟩:=b
 dsimp only [aQ.k,aQ.d,aQ.c] at *
 rw [Iv]
 dsimp only [aQ.k,aQ.d,aQ.c]
 have b4:=aE W (aY k d (.slice ao c.length ca));have b5:=aE (W.alloc (aY k d (.slice ao c.length ca))) (aY k2 d2 (.slice bo c2.length cb));obtain ⟨W2,eW2⟩:∃W2,(W.alloc (aY k d (.slice ao c.length ca))).alloc (aY k2 d2 (.slice bo c2.length cb))=W2:=⟨_,rfl⟩
 have H2:Hid (Rc W W2/\W2.heap[W.heap.size]?=some (aY k d (.slice ao c.length ca))/\W2.heap[W.heap.size+1]?=some (aY k2 d2 (.slice bo c2.length cb))):=by
  rw [<-eW2];exact ⟨b4.trans (b5.mono b4.size),aI (aq _ _) _,by rw [<-du W (aY k d (.slice ao c.length ca))];exact aq _ _⟩
 obtain ⟨⟨i0,i1,i2,i3,i4,i5,i6,i7⟩,il⟩:=aB H2.out.2.1;obtain ⟨⟨j0,j1,j2,j3,j4,j5,j6,j7⟩,jl⟩:=aB H2.out.2.2;have HQ:Hid (Sn W ao c/\Sn W bo c2/\W.heap[p]?=some (.cells #[ix p] 43 (0,0))):=⟨⟨q3,q4⟩,⟨q3',q4'⟩,hp⟩;clear q3 q4 q3' q4' b4 b5 hp
 by_cases hk:k=k2
 ·subst hk;have hkb:(k != k)=false:=by simp
  simp only [SY]
  by_cases h0:k=0
  ·subst h0;simp only [SY];have HTk:Hid (∀V,Ra 22 #[cL 0 d (.slice ao c.length ca)] V fun r w'=>r=.returned (.bool true)/\Rc V w'):=fun V=>eO 0 d ao c.length ca V
   obtain ⟨b7,e7⟩:∃b,(d.k == d2.k)=b:=⟨_,rfl⟩;clear IH;cases b7 with
   |true=>
    rw [e7]
    go_enter VH,VC
    go_wp2_with fail
    try rw [eW2]
    refine (HTk.out _).mono ?_;rintro r w3 ⟨rfl,hb3⟩;obtain ⟨⟨l0,l1,l2,l3,l4,l5,l6,l7⟩,ll⟩:=aB (ag H2.out.2.1 hb3);obtain ⟨⟨m0,m1,m2,m3,m4,m5,m6,m7⟩,ml⟩:=aB (ag H2.out.2.2 hb3);have H3:Hid (Rc W w3):=H2.out.1.trans (hb3.mono H2.out.1.size);clear hb3
    go_wp2_with fail
    go_ret
    exact ⟨by first|rfl|(simp only [R6,Tp,yI];first|done|rfl|congr)|simp [yI],H3.out⟩
   |false=>
    rw [e7]
    go_enter VH,VC
    go_wp2_with fail
    try rw [eW2]
    refine (HTk.out _).mono ?_;rintro r w3 ⟨rfl,hb3⟩;obtain ⟨⟨l0,l1,l2,l3,l4,l5,l6,l7⟩,ll⟩:=aB (ag H2.out.2.1 hb3);obtain ⟨⟨m0,m1,m2,m3,m4,m5,m6,m7⟩,ml⟩:=aB (ag H2.out.2.2 hb3);have H3:Hid (Rc W w3):=H2.out.1.trans (hb3.mono H2.out.1.size);clear hb3
    go_wp2_with fail
    go_ret
    exact ⟨by first|rfl|(simp only [R6,Tp,yI];first|done|rfl|congr)|simp [yI],H3.out⟩
  ·simp only [h0,R7];have h0b:(k == 0)=false:=by simpa using h0
   have HTk:Hid (∀V,Ra 22 #[cL k d (.slice ao c.length ca)] V fun r w'=>r=.returned (.bool false)/\Rc V w'):=fun V=>by have:=eO k d ao c.length ca V;rw [h0b] at this;exact this
   obtain ⟨R,hR⟩:∃R,yc (pl c) (pl c2)=R:=⟨_,rfl⟩;have HIH:=ai IH
   have HW:Hid (∀V ao' cap' c',Rc W V->(ao'=ao/\cap'=ca/\c'=c\/ao'=bo/\cap'=cb/\c'=c2)->Ra 24 #[.slice ao' c'.length cap'] V fun r w'=>∃ao2 cap2,r=.returned (.slice ao2 (pl c').length cap2)/\(SN w' (.slice ao2 (pl c').length cap2) (pl c'))/\Rc V w'):=fun V ao' cap' c' hb hc=>by
    rcases hc with ⟨rfl,rfl,rfl⟩|⟨rfl,rfl,rfl⟩
    ·refine (mh _ _ _ V (HQ.out.1.below hb) q1 q2 (by omega)).mono ?_;rintro r w' ⟨v,rfl,hs,hb'⟩;obtain ⟨a2,c2,e,h⟩:=hs;exact ⟨a2,c2,by rw [e],⟨a2,c2,rfl,h⟩,hb'⟩
    ·refine (mh _ _ _ V (HQ.out.2.1.below hb) q1' q2' (by omega)).mono ?_;rintro r w' ⟨v,rfl,hs,hb'⟩;obtain ⟨a2,c2,e,h⟩:=hs;exact ⟨a2,c2,by rw [e],⟨a2,c2,rfl,h⟩,hb'⟩
   have HE:Hid (∀V a1 c1 a2 c3,Rc W V->SN V (.slice a1 (pl c).length c1) (pl c)->SN V (.slice a2 (pl c2).length c3) (pl c2)->Ra 23 #[.slice a1 (pl c).length c1,.slice a2 (pl c2).length c3,ix p] V fun r w'=>r=.returned (.bool R)/\Rc V w'):=fun V a1 c1 a2 c3 hb h1 h2=>by
    obtain ⟨_,_,e1,r1,r2,r3⟩:=h1;obtain ⟨_,_,e2,s1,s2,s3⟩:=h2;simp only [Value.slice.injEq,VJ] at e1 e2;obtain ⟨rfl,rfl⟩:=e1;obtain ⟨rfl,rfl⟩:=e2;have:=Cf (pl c) (pl c2) a1 a2 c1 c3 p V r3 s3 r1 r2 s1 s2 (ag HQ.out.2.2 hb) (fun x y hx hy=>HIH.out x y (EP hx) (EP hy));rw [hR] at this;exact this
   rw [hR];clear IH hR;have HK:Hid (∀V,Rc W2 V->V.cell? ⟨W.heap.size,7,none⟩=some (.slice ao c.length ca)/\V.cell? ⟨W.heap.size+1,7,none⟩=some (.slice bo c2.length cb)/\V.cell? ⟨p,0,none⟩=some (ix p)/\Rc W2 V):=fun V hb=>⟨(aB (ag H2.out.2.1 hb)).1.2.2.2.2.2.2.2,(aB (ag H2.out.2.2 hb)).1.2.2.2.2.2.2.2,af (ag (ag HQ.out.2.2 H2.out.1) hb) rfl,hb⟩
   have hpl:p<W2.heap.size:=Rk (au HQ.out.2.2) H2.out.1.size
   go_enter VH,VC
   go_wp2_with fail
   try rw [eW2]
   clear eW2;refine (HTk.out _).mono ?_;rintro r w3 ⟨rfl,hb3⟩;have H3:Hid (Rc W2 w3):=hb3
   have HKK:Hid (∀V,Rc w3 V->V.cell? ⟨W.heap.size,7,none⟩=some (.slice ao c.length ca)/\V.cell? ⟨W.heap.size+1,7,none⟩=some (.slice bo c2.length cb)/\V.cell? ⟨p,0,none⟩=some (ix p)/\Rc w3 V):=fun V hb=>by
    obtain ⟨a1,a2,a3,_⟩:=HK.out V (H3.out.trans (hb.mono H3.out.size));exact ⟨a1,a2,a3,hb⟩
   have H3W:Hid (∀V,Rc w3 V->Rc W V):=fun V hb=>H2.out.1.trans ((H3.out.trans (hb.mono H3.out.size)).mono H2.out.1.size)
   obtain ⟨l1,l2,l3,_⟩:=HKK.out w3 (hH _ _);have wl:W.heap.size+1<w3.heap.size:=QV _ _ l2;have wp:p<w3.heap.size:=QV _ _ l3;clear hb3 i0 i1 i2 i3 i4 i5 i6 i7 j0 j1 j2 j3 j4 j5 j6 j7 il jl
   go_wp2_with fail
   go_region_held3 (fun w'=>w'.cell? ⟨W.heap.size,7,none⟩=some (.slice ao c.length ca)/\w'.cell? ⟨W.heap.size+1,7,none⟩=some (.slice bo c2.length cb)/\w'.cell? ⟨p,0,none⟩=some (ix p)/\Below w3.heap.size w3 w') (first|(exact HKK.out _ (by assumption))|(exact HKK.out _ (hH _ _))|(exact HKK.out _ (hH _ _).drew)|go_keep) (first|(have hgd:=hs1;clear hgd;go_at_call 24;refine (HW.out _ _ _ _ (H3W.out _ hB1) (by first|exact .inl ⟨rfl,rfl,rfl⟩|exact .inr ⟨rfl,rfl,rfl⟩)).mono ?_;rintro r w5 ⟨a5,c5,rfl,hs2,hb5⟩;have hB2:Below w3.heap.size w3 w5:=hB1.trans (hb5.mono hB1.size);replace hs1:=hs1.below hb5)|(go_at_call 24;refine (HW.out _ _ _ _ (H3W.out _ (hH _ _).drew) (by first|exact .inl ⟨rfl,rfl,rfl⟩|exact .inr ⟨rfl,rfl,rfl⟩)).mono ?_;rintro r w4 ⟨a4,c4,rfl,hs1,hb4⟩;have hB1:Below w3.heap.size w3 w4:=(hH w3.heap.size w3).drew.trans (hb4.mono (gt _)))|(go_at_call 23;refine (HE.out _ _ _ _ _ (H3W.out _ hB2) (by assumption) (by assumption)).mono ?_;rintro r w6 ⟨rfl,hb6⟩;have hB3:Below w3.heap.size w3 w6:=hB2.trans (hb6.mono hB2.size)))
   all_goals (
    go_wp2_with fail
    go_ret
    exact ⟨rfl,H3W.out _ hB3⟩)
 ·have hkb:(k != k2)=true:=by simpa using hk
  simp only [hk,R7];clear IH
  go_enter VH,VC
  go_wp2_with fail
  try rw [eW2]
  go_ret
  exact ⟨rfl,H2.out.1⟩
theorem L6 (a b:aQ) (ha:mQ a<=100000000) (hb:mQ b<=100000000):PF a b:=by
 obtain ⟨s,hs⟩:∃s,mQ a=s:=⟨_,rfl⟩
 induction s using Nat.strongRecOn generalizing a b with
 |ind s ih=>exact In a b ha hb (fun x y hx hy=>ih (mQ x) (by rw [<-hs];exact kB hx) x y (by have:=kB hx;omega) (by have:=kB hy;omega) rfl)
theorem xt (W:World) (o o2:Obj):(((W.alloc o).alloc o2).alloc (.cells #[ix (W.heap.size+1+1)] 43)).heap[W.heap.size+1+1]?=some (.cells #[ix (W.heap.size+1+1)] 43 (0,0)):=by
 rw [<-du W o,<-du (W.alloc o) o2];exact aq _ _
theorem NA (W:World) (o o2 o3:Obj):Below W.heap.size W (((W.alloc o).alloc o2).alloc o3):=by
 have b1:=aE W o;have b2:=aE (W.alloc o) o2;have b3:=aE ((W.alloc o).alloc o2) o3;exact (b1.trans (b2.mono b1.size)).trans (b3.mono (by rw [du,du];omega))
theorem DK (a b:aQ) (va vb:Value) (W:World) (ha:Nv W va a) (hb:Nv W vb b) (hsa:mQ a<=100000000) (hsb:mQ b<=100000000):Ra 9 #[va,vb] W fun r w'=>r=.returned (.bool (same a b))/\Below W.heap.size W w':=by
 have hmf:=mkfn
 have HL:Hid (∀V,Rc W V->V.heap[W.heap.size+1+1]?=some (.cells #[ix (W.heap.size+1+1)] 43 (0,0))->Ra 21 #[va,vb,.pointer (some ⟨W.heap.size+1+1,0,none⟩)] V fun r w'=>r=.returned (.bool (same a b))/\Rc W w'):=fun V hV hp=>by
  refine (L6 a b hsa hsb va vb V _ (ha.below hV) (hb.below hV) hp).mono ?_;rintro r w' ⟨rfl,h1⟩;exact ⟨rfl,hV.trans (h1.mono hV.size)⟩
 obtain ⟨ao,cap,rfl,_⟩:=ha;obtain ⟨bo,cap',rfl,_⟩:=hb
 go_enter Tryz.func9,Tryz.ntmps9
 go_wp2_with fail
 refine (HL.out _ (NA _ _ _ _) (xt _ _ _)).mono ?_;rintro r w1 ⟨rfl,h1⟩;have H1:=ai h1;clear h1 HL
 go_wp2_with fail
 go_ret
 exact ⟨rfl,H1.out⟩
end Go.Proofs.YtnljjdhodelhdaaGreatDoor
namespace Go.Proofs.YtnljjdhodelhdaaGreatDoor
open Go.RowKit
open Lw (Dc bE rt cB dq fi ik jm ud qh)
mutual
def J7:aQ->aQ|.mk k d c=>.mk k (Li d) (Ac c)
def Ac:List aQ->List aQ|[]=>[]|n :: r=>J7 n :: Ac r
end
theorem Ab (a b:List aQ):Ac (a++b)=Ac a++Ac b:=by
 induction a with
 |nil=>rfl
 |cons n r ih=>simp [Ac,ih]
theorem yt:∀(E:List Ev) (S:List (Int × List aQ)),et (E.map er) (S.map fun x=>(x.1,Ac x.2))=(et E S).map J7
 |[],S=>rfl
 |⟨a,n,d⟩ :: E,S=>by
  have ih:=yt E;have hc:cm (Li d)=cm d:=rfl;have h0:Li aC=aC:=rfl;simp only [Sc,er,et,hc,Ua]
  by_cases h1:a=1
  ·have:=ih ((n,[]) :: S);rw [IO h1,IO h1]
   split
   ·rfl
   ·exact this
  ·rw [Eq h1,Eq h1]
   by_cases h3:a=3
   ·rw [IO h3,IO h3]
    rcases S with _|⟨⟨k,c⟩,_|⟨⟨k',c'⟩,S⟩⟩
    ·rfl
    ·by_cases hk:k=n <;> by_cases hE:E=[] <;> simp [hk,hE,J7,h0]
    ·have:=ih ((k',c'++[.mk k aC c]) :: S)
     by_cases hk:k=n <;> simp_all [Ab,Ac,J7]
   ·rw [Eq h3,Eq h3]
    split
    ·rcases S with _|⟨⟨k,c⟩,S⟩
     ·rfl
     ·have:=ih ((k,c++[.mk 0 d []]) :: S)
      simpa only [Sc,Ab,Ac,J7] using this
    ·rfl
mutual
theorem yV:∀(a b:aQ),J7 a=J7 b->same a b=true
 |.mk k d c,.mk k' d' c',h=>by
  simp only [J7,aQ.mk.injEq,Li,Tv.mk.injEq] at h;obtain ⟨rfl,⟨e1,e2,_⟩,e3⟩:=h;rw [same];simp only [aQ.k,aQ.d,aQ.c,SY,e1,e2]
  split
  ·simp
  ·exact uE c c' e3
theorem uE:∀(c c':List aQ),Ac c=Ac c'->mq c (c'.filter fun x=>!vD x)=true
 |[],[],_=>rfl
 |[],_ :: _,h=>by simp [Ac] at h
 |_ :: _,[],h=>by simp [Ac] at h
 |x :: r,y :: m,h=>by
  simp only [Ac,Vp] at h
  have hn:vD x=vD y:=by
   obtain ⟨k,d,c⟩:=x;obtain ⟨k',d',c'⟩:=y;have h1:=h.1;simp only [J7,aQ.mk.injEq,Li,Tv.mk.injEq] at h1;obtain ⟨rfl,⟨e1,_⟩,_⟩:=h1;simp only [vD,cm,aQ.k,aQ.d,e1]
  have h2:=uE r m h.2;have h1:=yV x y h.1;cases hy:vD y <;> simp [mq,hn,hy,h1,h2]
end
theorem Gr {E E':List Ev}{n m:aQ}(h:E'.map er=E.map er) (h1:et E []=some n) (h2:et E' []=some m):same n m=true:=by
 have a:=yt E [];have b:=yt E' [];rw [h1] at a;rw [h2,h] at b;exact yV n m (RJ (a.symm.trans b))
def KV:List (Int × List aQ)->Nat
 |[]=>0
 | (_,c) :: S=>jT c+1+KV S
theorem vf (a b:List aQ):jT (a++b)=jT a+jT b:=by
 induction a with
 |nil=>simp [jT]
 |cons n r ih=>simp [jT,ih];omega
theorem tL:∀(l:List Ev) (S:List (Int × List aQ)) (n:aQ),et l S=some n->mQ n<=KV S+l.length
 |[],S,n,h=>by simp [et] at h
 |x :: l,S,n,h=>by
  have ih:=fun S=>tL l S n
  simp only [et] at h
  split at h
  ·split at h
   ·cases h
   ·have:=ih _ h;simp only [KV,jT,List.length_cons] at this ⊢;omega
  ·split at h
   ·rcases S with _|⟨⟨k,c⟩,_|⟨⟨k',c'⟩,S⟩⟩
    ·cases h
    ·simp only at h
     split at h
     ·split at h
      ·cases h;simp only [mQ,KV,List.length_cons];omega
      ·cases h
     ·cases h
    ·simp only at h
     split at h
     ·have:=ih _ h;simp only [KV,vf,jT,mQ,List.length_cons] at this ⊢;omega
     ·cases h
   ·split at h
    ·rcases S with _|⟨⟨k,c⟩,S⟩
     ·cases h
     ·have:=ih _ h;simp only [KV,vf,jT,mQ,List.length_cons] at this ⊢;omega
    ·cases h
structure Tld (s:ByteArray) (E:List Ev) (L:List Dc) (T:ByteArray):Prop where
 tw:TwF s T
 sc:(Lx.fy T).2.1=0
 ev:∃E',(∃a,gm (.live [] 0) (fC T) E' 0 a)/\cO qi E'=some L/\E'.map er=E.map er
 sz:T.size<=2147483647
theorem LW {s:ByteArray}{E:List Ev}{L:List Dc}(h:Fd s E L) (n:Int):Tld s E L (wo n L):=by
 obtain ⟨a,hA⟩:=h.al;obtain ⟨L2,hL2,_,hall⟩:=oq s h.sc hA;obtain rfl:=RJ (hL2.symm.trans h.ly);obtain ⟨c1,⟨E',hA',hL',hE'⟩,hR⟩:=hall n.toNat;obtain ⟨f1,f2,f3,f4,f5,f6⟩:=pM h
 have hz:(wo n L2).size<=qh L2:=by
  have h9:=Lw.si (n:=n.toNat) L2 (Lw.eJ L2).1 Lw.qt 0 f5 Lw.QQ;have h1:=h9.out;show (Lw.im n.toNat L2).toArray.size<=_;rw [TQ];show (Lw.puts n.toNat L2 (Lw.eJ L2).1 Lw.qt).sk.out.length<=_;omega
 refine ⟨⟨Mn hR,fun j t t' x1 x2=>?_⟩,c1,⟨E',⟨a,hA'⟩,hL',hE'⟩,by omega⟩;obtain ⟨a1,a2,a3⟩:=Ot hR x1 x2;exact ⟨a1,a2,fun hj hn=>a3 (.inr hj) hn⟩
def Mc (n:Nat) (s o:ByteArray):Bool:=
 decide (s.size<=1000) && decide ((Lx.fy s).2.1=0) && match yy (fC s) (.live [] 0) with
 |some (E,c,_)=>decide (c=0) && match cO qi E with
  |some L=>decide (Lw.im n L=o.data.toList)
  |none=>false
 |none=>false
abbrev Og:ByteArray:=⟨#[112,114,111,103,114,97,109,32,112,59,98,101,103,105,110,32,120,58,61,49,59,121,58,61,102,40,97,44,98,41,101,110,100,46]⟩
abbrev MD:ByteArray:=⟨#[112,114,111,103,114,97,109,32,112,59,10,98,101,103,105,110,10,32,32,120,32,58,61,32,49,59,10,32,32,121,32,58,61,32,102,40,97,44,32,98,41,10,101,110,100,46,10]⟩
theorem Om:Mc 20 Og MD=true:=by kernel_rfl
theorem Iy {n:Nat}{s o:ByteArray}(h:Mc n s o=true):∃E L,Fd s E L/\wo n L=o:=by
 unfold Mc at h;rw [Q1,Q1] at h;obtain ⟨⟨h1,h2⟩,h4⟩:=h;cases ha:yy (fC s) (.live [] 0) with
 |none=>rw [ha] at h4;cases h4
 |some x=>
  obtain ⟨E,c,k⟩:=x;rw [ha] at h4;simp only at h4;rw [Q1] at h4;obtain ⟨h5,h8⟩:=h4;have hc:=RE h5;subst hc;cases hL:cO qi E with
  |none=>rw [hL] at h8;cases h8
  |some L=>
   rw [hL] at h8;simp only at h8;have hsz:=RE h1;refine ⟨E,L,⟨by omega,RE h2,⟨k,AE _ _ _ _ _ ha⟩,hL⟩,?_⟩;have:=RE h8;obtain ⟨⟨y⟩⟩:=o;show (⟨(Lw.im n L).toArray⟩:ByteArray)=_;rw [this]
theorem EW (W:World) (hT:Lx.qk W) (hW:Lw.jQ W) (hE:mM W):Ra 4 #[] W fun r w'=>r=.returned (.bool true)/\Below W.heap.size W w':=by
 obtain ⟨E,L,hF,hw⟩:=Iy Om
 have H1:Hid (Ra 5 #[.int .i64 20,.string Og] W fun r w'=>r=.returned (.tuple #[.string MD,.nilIface])/\Rc W w'):=by
  have:=iN hF (n:=20) (by decide) (by decide) hT hW hE;have e:wo (20:Int) L=MD:=hw;rw [e] at this;exact this
 clear hT hW hE hF hw
 go_enter Tryz.func4,Tryz.ntmps4
 go_wp2_with fail
 refine H1.out.mono ?_;rintro r1 w1 ⟨rfl,hb1⟩;have HB1:Hid (Rc W w1):=hb1;clear hb1 H1
 go_wp2_with fail
 go_ret
 exact ⟨rfl,HB1.out⟩
theorem xP (t:Tv) (W:World):Ra 7 #[.agg #[.int .u8 t.k,.string t.t,.int .i64 t.a,.int .i64 t.l,.int .i64 t.c,.int .i64 t.f]] W fun r w'=>r=.returned (.bool (t.k == 7 || t.k == 8))/\Below W.heap.size W w':=by
 obtain ⟨b7,e7⟩:∃b,(t.k == 7)=b:=⟨_,rfl⟩;obtain ⟨b8,e8⟩:∃b,(t.k == 8)=b:=⟨_,rfl⟩;rw [e7,e8];cases b7 <;> cases b8
 all_goals (
  go_enter Tryz.func7,Tryz.ntmps7
  go_wp2_with fail
  go_ret
  exact ⟨rfl,aE _ _⟩)
theorem pS {b:Nat}{w v:World}(h:Below b w v):∀m,Below b w (v.drewN m)
 |0=>h
 |m+1=>(pS h m).drew
theorem xv {j:Nat}{t t':Tv}(h:0<j->fX t->(t.f=0↔t'.f=0)):(t.k == 7 || t.k == 8)=false\/((t.k == 7 || t.k == 8)=true/\(j=0\/(0<j/\(t.f == 0)=(t'.f == 0)))):=by
 cases hk:(t.k == 7 || t.k == 8) with
 |false=>exact .inl rfl
 |true=>
  refine .inr ⟨rfl,?_⟩
  by_cases hj:0<j
  ·refine .inr ⟨hj,?_⟩;have:=h hj (by simpa [fX] using hk);rw [SE,R5,R5];exact this
  ·exact .inl (by omega)
theorem AN (s:ByteArray) (n m:Int) (hs:s.size<=maxLen) (W:World) (hT:Lx.qk W) (hW:Lw.jQ W) (hE:mM W) :
  Ra 3 #[.string s,.int .i64 n,.int .i64 m] W fun r w'=>r=.returned (.bool true)/\Below W.heap.size W w':=by
 have HAw:Hid (Ra 4 #[] W fun r w'=>r=.returned (.bool true)/\Below W.heap.size W w'):=EW W hT hW hE
 by_cases hb:131072<s.size
 ·have q:(s.size:Int)>131072:=by omega
  clear hT hW hE hb
  go_enter VD,Tryz.ntmps3
  go_wp2_with fail
  refine HAw.out.mono ?_;rintro r w1 ⟨rfl,hb1⟩;have H1:Hid (Below W.heap.size W w1):=hb1;clear hb1
  go_wp2_with fail
  go_ret
  exact ⟨rfl,H1.out⟩
 have q:¬((s.size:Int)>131072):=by omega
 have hsz:s.size<=131072:=by omega
 clear hb
 rcases B4 s hs n with ⟨n1,n2,E,L,hF⟩|hX
 rotate_left
 ·have HX:Hid (∀V,Below W.heap.size W V->Ra 5 #[.int .i64 n,.string s] V (CW V (.string ⟨#[]⟩) (fun _ _ _ _=>True))):=fun V hb=>hX V (hT.below hb) (hE.below hb)
  clear hX hT hW hE
  go_enter VD,Tryz.ntmps3
  go_wp2_with fail
  refine HAw.out.mono ?_;rintro r w1 ⟨rfl,hb1⟩;have H1:Hid (Below W.heap.size W w1):=hb1;clear hb1
  go_wp2_with fail
  refine (HX.out _ H1.out).mono ?_;rintro r w2 ⟨g,c,x,y,u,_,rfl,_,hb2⟩;have H2:Hid (Below W.heap.size W w2):=H1.out.trans (hb2.mono H1.out.size);clear hb2
  go_wp2_with fail
  go_ret
  exact ⟨rfl,H2.out⟩
 have hTo:=LW hF n;have HG:Hid (∀k,1<=k->k<=4096->∀V,Below W.heap.size W V->Ra 5 #[.int .i64 k,.string s] V fun r w'=>r=.returned (.tuple #[.string (wo k L),.nilIface])/\Below V.heap.size V w'):=fun k h1 h2 V hb=>iN hF h1 h2 (hT.below hb) (hW.below hb) (hE.below hb)
 obtain ⟨T,hTT⟩:∃T,wo n L=T:=⟨_,rfl⟩;rw [hTT] at hTo;obtain ⟨a,hA⟩:=hF.al;obtain ⟨E',⟨a',hA'⟩,hL',hEE⟩:=hTo.ev;have HGT:Hid (T.size<=262144->∀k,1<=k->k<=4096->∀V,Below W.heap.size W V->Ra 5 #[.int .i64 k,.string T] V fun r w'=>r=.returned (.tuple #[.string (wo k L),.nilIface])/\Below V.heap.size V w'):=fun hz k h1 h2 V hb=>iN ⟨hz,hTo.sc,⟨a',hA'⟩,hL'⟩ h1 h2 (hT.below hb) (hW.below hb) (hE.below hb)
 have HF1:Hid (∀V,Below W.heap.size W V->Ra 5 #[.int .i64 n,.string s] V fun r w'=>r=.returned (.tuple #[.string T,.nilIface])/\Below V.heap.size V w'):=fun V hb=>by rw [<-hTT];exact HG.out n n1 n2 V hb
 obtain ⟨l,hl⟩:∃l,fC s=l:=⟨_,rfl⟩;obtain ⟨l',hl'⟩:∃l',fC T=l':=⟨_,rfl⟩;have hlen:l'.length=l.length:=by rw [<-hl,<-hl'];exact hTo.tw.len
 have hls:l.length<=131072:=by have:=rO s;rw [hl] at this;omega
 have HLn:Hid (l'.length=l.length/\l.length<=131072):=⟨hlen,hls⟩;have HAt:Hid (∀(j:Nat) t t',l[j]?=some t->l'[j]?=some t'->t'.k=t.k/\t'.t=t.t/\(0<j->fX t->(t.f=0↔t'.f=0))):=by rw [<-hl,<-hl'];exact hTo.tw.at_
 have hsT:=hTo.sz;have HS1:Hid (∀V,Below W.heap.size W V->Ra 6 #[.string s] V fun e w'=>∃p c x y u,e=.returned (.tuple #[.slice p l.length c,.int .i64 0,.agg #[.int .i64 x,.int .i64 y,.int .i64 u]])/\Lt w' p l/\Below V.heap.size V w'):=fun V hb=>jf (hT.below hb) (by omega) hl (by rw [hF.sc];rfl)
 have HS2:Hid (∀V,Below W.heap.size W V->Ra 6 #[.string T] V fun e w'=>∃p c x y u,e=.returned (.tuple #[.slice p l.length c,.int .i64 0,.agg #[.int .i64 x,.int .i64 y,.int .i64 u]])/\Lt w' p l'/\Below V.heap.size V w'):=fun V hb=>by
  have:=jf (hT.below hb) hsT hl' (z:=0) (by rw [hTo.sc];rfl);rw [hlen] at this;exact this
 have HP:Hid (∀(E:List Ev) (l:List Tv),(∃a,gm (.live [] 0) l E 0 a)->l.length<=131072->∀V ao cap,Lt V ao l->Ra 8 #[.slice ao l.length cap] V fun r w'=>∃n p cv,r=.returned (.tuple #[cL n.k n.d (.slice p n.c.length cv),.int .i64 0,.int .i64 0])/\Nv w' (cL n.k n.d (.slice p n.c.length cv)) n/\et E []=some n/\Below V.heap.size V w'):=fun E l ⟨a,h⟩ h1 V ao cap hl=>by
  refine (np hl (by omega) h).mono ?_;rintro r w' ⟨hb,n,p,cv,rfl,ht,h2,_⟩;exact ⟨n,p,cv,rfl,TN.see n _ ht,h2 rfl,hb⟩
 have HP1:Hid (∀V ao cap,Lt V ao l->Ra 8 #[.slice ao l.length cap] V fun r w'=>∃n p cv,r=.returned (.tuple #[cL n.k n.d (.slice p n.c.length cv),.int .i64 0,.int .i64 0])/\Nv w' (cL n.k n.d (.slice p n.c.length cv)) n/\et E []=some n/\Below V.heap.size V w'):=HP.out E l ⟨a,by rw [<-hl];exact hA⟩ hls
 have HP2:Hid (∀V ao cap,Lt V ao l'->Ra 8 #[.slice ao l.length cap] V fun r w'=>∃n p cv,r=.returned (.tuple #[cL n.k n.d (.slice p n.c.length cv),.int .i64 0,.int .i64 0])/\Nv w' (cL n.k n.d (.slice p n.c.length cv)) n/\et E' []=some n/\Below V.heap.size V w'):=by
  have:=HP.out E' l' ⟨a',by rw [<-hl'];exact hA'⟩ (by omega);rw [hlen] at this;exact this
 have HSm:Hid (∀n n' va vb V,Nv V va n->Nv V vb n'->et E []=some n->et E' []=some n'->Ra 9 #[va,vb] V fun r w'=>r=.returned (.bool true)/\Below V.heap.size V w'):=fun n n' va vb V h1 h2 h3 h4=>by
  have y1:=tL _ _ _ h3;have y2:=tL _ _ _ h4;have y3:E.length<=0+23*(fC s).length+1:=nZ (fC s) [] 0 E a hA dO;have y4:E'.length<=0+23*(fC T).length+1:=nZ (fC T) [] 0 E' a' hA' dO;rw [hl] at y3;rw [hl'] at y4;have:=DK n n' va vb V h1 h2 (by simp only [KV] at y1;omega) (by simp only [KV] at y2;omega);rw [Gr hEE h3 h4] at this;exact this
 have HM:Hid (T.size<=262144->(∀V,Below W.heap.size W V->Ra 5 #[.int .i64 n,.string T] V fun r w'=>r=.returned (.tuple #[.string T,.nilIface])/\Below V.heap.size V w')/\((∃S,(∀V,Below W.heap.size W V->Ra 5 #[.int .i64 m,.string s] V fun r w'=>r=.returned (.tuple #[.string S,.nilIface])/\Below V.heap.size V w')/\∀V,Below W.heap.size W V->Ra 5 #[.int .i64 m,.string T] V fun r w'=>r=.returned (.tuple #[.string S,.nilIface])/\Below V.heap.size V w')\/∀x V,Ra 5 #[.int .i64 m,.string x] V (CW V (.string ⟨#[]⟩) (fun _ _ _ _=>True)))):=fun hz=>by
  refine ⟨fun V hb=>by have:=HGT.out hz n n1 n2 V hb;rw [hTT] at this;exact this,?_⟩
  by_cases hm:m<1\/4096<m
  ·exact .inr fun x V=>pF hm
  ·exact .inl ⟨_,HG.out m (by omega) (by omega),HGT.out hz m (by omega) (by omega)⟩
 clear hT hW hE hF hTo hTT hA hA' hL' hEE HG HGT HP hl hl' hlen hls hs hsz
 go_enter VD,Tryz.ntmps3
 go_wp2_with fail
 refine HAw.out.mono ?_;rintro r w1 ⟨rfl,hb1⟩;have H1:Hid (Below W.heap.size W w1):=hb1;clear hb1 HAw
 go_wp2_with fail
 refine (HF1.out _ H1.out).mono ?_;rintro r w2 ⟨rfl,hb2⟩;have H2:Hid (Below W.heap.size W w2):=H1.out.trans (hb2.mono H1.out.size);clear hb2 HF1 H1
 go_wp2_with fail
 refine (HS1.out _ H2.out).mono ?_;rintro e w3 ⟨p3,c3,x3,y3,u3,rfl,hL3,hb3⟩;obtain ⟨V3,eV3⟩:∃V3,w3.alloc (Er x3 y3 u3)=V3:=⟨_,rfl⟩
 have H3:Hid (Below W.heap.size W V3/\Lt V3 p3 l):=by
  have hx:Below w3.heap.size w3 V3:=by rw [<-eV3];exact (hH _ _).alloc (gt _) _
  have hy:=H2.out.trans (hb3.mono H2.out.size);exact ⟨hy.trans (hx.mono hy.size),hL3.below hx⟩
 clear hL3 hb3 HS1 H2
 go_wp2_with fail
 try rw [eV3]
 clear eV3;refine (HS2.out _ H3.out.1).mono ?_;rintro e w4 ⟨p4,c4,x4,y4,u4,rfl,hL4,hb4⟩;obtain ⟨V4,eV4⟩:∃V4,w4.alloc (Er x4 y4 u4)=V4:=⟨_,rfl⟩
 have H4:Hid (Below W.heap.size W V4/\Lt V4 p3 l/\Lt V4 p4 l'):=by
  have hx:Below w4.heap.size w4 V4:=by rw [<-eV4];exact (hH _ _).alloc (gt _) _
  have hy:=hb4.trans (hx.mono hb4.size);exact ⟨H3.out.1.trans (hy.mono H3.out.1.size),H3.out.2.below hy,hL4.below hx⟩
 clear hL4 hb4 H3 HS2
 go_wp2_with fail
 try rw [eV4]
 clear eV4
 go_loopw [16] (fun i wr=>∃j:Nat,j<=l.length/\i=.int .i64 j/\Hid (Below W.heap.size W wr/\Lt wr p3 l/\Lt wr p4 l')) (fun i _=>l.length-(intOf i).toNat)
 case atStart=>exact ⟨0,QU _,rfl,H4.out⟩
 case round=>
  obtain ⟨j,hj,rfl,HJ⟩:=hrel;clear H4;have hll:=HLn.out.2
  by_cases hlt:j<l.length
  ·have q1:(j:Int)<l.length:=by omega
   have q0:(0:Int)<=j:=by omega
   obtain ⟨t,ht⟩:∃t,l[j]?=some t:=⟨_,Pi hlt⟩;obtain ⟨t',ht'⟩:∃t',l'[j]?=some t':=⟨_,Pi (by rw [HLn.out.1];exact hlt)⟩;obtain ⟨e1,e2,e3⟩:=HAt.out j t t' ht ht';obtain ⟨b,off,rfl,x0,x1,x2,x3,x4,x5⟩:=HJ.out.2.1 j t ht;obtain ⟨b',off',rfl,y0,y1,y2,y3,y4,y5⟩:=HJ.out.2.2 j t' ht';rw [e1] at y0;rw [e2] at y1;have hcs:=xv e3;obtain ⟨f',hf'⟩:∃f',t'.f=f':=⟨_,rfl⟩;rw [hf'] at y5 hcs;have HNt:=show Hid _ from xP t
   obtain ⟨k,tt,ta,tl,tc,f⟩:=t
   dsimp only at *
   have HX:Hid (∀V,Below wr.heap.size wr V->Below W.heap.size W V/\Lt V (some ⟨b,off,none⟩) l/\Lt V (some ⟨b',off',none⟩) l'):=fun V hb=>⟨HJ.out.1.trans (hb.mono HJ.out.1.size),HJ.out.2.1.below hb,HJ.out.2.2.below hb⟩
   have HC:=ai hcs;clear ht ht' e1 e2 e3 hf' HJ HAt y2 y3 y4 hcs;have u0:=fun x:HW (SG wr)=>bC x0 x.h
   have u1:=fun x:HW (SG wr)=>bC x1 x.h
   have u2:=fun x:HW (SG wr)=>bC x2 x.h
   have u3:=fun x:HW (SG wr)=>bC x3 x.h
   have u4:=fun x:HW (SG wr)=>bC x4 x.h
   have u5:=fun x:HW (SG wr)=>bC x5 x.h
   have v0:=fun x:HW (SG wr)=>bC y0 x.h
   have v1:=fun x:HW (SG wr)=>bC y1 x.h
   have v5:=fun x:HW (SG wr)=>bC y5 x.h
   have ub:=fun x:HW (SG wr)=>QV _ _ (u0 x)
   have hne:Nonempty (HW (SG wr)):=⟨⟨wr.drew,(hH _ _).drew⟩⟩;have hex:∀x:HW (SG wr),∃y:HW (SG wr),x.W=y.W:=fun x=>⟨x,rfl⟩
   clear x0 x1 x2 x3 x4 x5 y0 y1 y5
   go_wp2_with fail
   refine co (S:=SG wr) (by kernel_rfl) (by kernel_rfl) (hH _ _).drew ?_
   repeat (go_big_quiet_step (fail))
   refine wpQuiet_nil ?_;rintro w9 ⟨⟨W9,hS9⟩,rfl⟩;have H9:Hid (Below wr.heap.size wr w9):=hS9;clear hS9
   go_wp2_with fail
   refine co (S:=SG wr) (by kernel_rfl) (by kernel_rfl) H9.out.drew ?_
   rcases HC.out with hk|⟨hk,hr⟩
   case' inl=>rw [hk] at HNt
   case' inr=>
    rw [hk] at HNt
    rcases hr with hj0|⟨hj0,hr⟩
    case' inl=>
     have r0:¬(0:Int)<j:=by omega
     have r2:decide ((0:Int)<(j:Int))=false:=Rf r0;have r3:decide (0<j)=false:=Rf (by omega);have r4:¬0<j:=by omega
     clear hj0
    case' inr=>
     have r0:(0:Int)<j:=by omega
     have r2:decide ((0:Int)<(j:Int))=true:=Q9 r0;have r3:decide (0<j)=true:=Q9 hj0;have r4:0<j:=hj0;clear hj0;obtain ⟨bf,hbf⟩:∃bf,(f == 0)=bf:=⟨_,rfl⟩;have hbf':(f' == 0)=bf:=by rw [<-hr];exact hbf
     clear hr
   all_goals (
    clear hk HC
    repeat (go_big_quiet_step ((go_at_call 7;exact Calls.quiet_in _ (HNt.out _) (fun _ _=>SG.keep))))
    refine wpQuiet_nil ?_;rintro w10 ⟨⟨W10,hS10⟩,rfl⟩;have H10:Hid (Below wr.heap.size wr w10):=hS10;clear hS10 hne hex u0 u1 u2 u3 u4 u5 v0 v1 v5 ub
    go_wp2_with fail
    exact ⟨⟨_,hlt,by go_num,HX.out _ H10.out⟩,by simp [intOf];omega⟩)
  ·obtain rfl:j=l.length:=by omega
   have q1:¬((l.length:Int)<l.length):=by omega
   clear HAt HLn
   go_wp2_with fail
   refine (HP1.out _ _ _ HJ.out.2.1).mono ?_;rintro e w5 ⟨n5,p5,c5,rfl,hn5,hb5,hw5⟩;obtain ⟨V5,eV5⟩:∃V5,w5.alloc (aY n5.k n5.d (.slice p5 n5.c.length c5))=V5:=⟨_,rfl⟩;obtain ⟨g5,hg5⟩:∃g5,w5.heap.size=g5:=⟨_,rfl⟩
   have H5:Hid (Below W.heap.size W V5/\Lt V5 p4 l'/\Nv V5 (cL n5.k n5.d (.slice p5 n5.c.length c5)) n5/\V5.heap[g5]?=some (aY n5.k n5.d (.slice p5 n5.c.length c5))/\et E []=some n5):=by
    have hx:Below w5.heap.size w5 V5:=by rw [<-eV5];exact (hH _ _).alloc (gt _) _
    have hy:=hw5.trans (hx.mono hw5.size);exact ⟨HJ.out.1.trans (hy.mono HJ.out.1.size),HJ.out.2.2.below hy,hn5.below hx,by rw [<-eV5,<-hg5];exact aq _ _,hb5⟩
   dsimp only [aY] at eV5
   clear hn5 hb5 hw5 HJ HP1
   go_wp2_with fail
   try rw [eV5]
   try rw [hg5]
   clear eV5 hg5;refine (HP2.out _ _ _ H5.out.2.1).mono ?_;rintro e w6 ⟨n6,p6,c6,rfl,hn6,hb6,hw6⟩;obtain ⟨V6,eV6⟩:∃V6,w6.alloc (aY n6.k n6.d (.slice p6 n6.c.length c6))=V6:=⟨_,rfl⟩;obtain ⟨g6,hg6⟩:∃g6,w6.heap.size=g6:=⟨_,rfl⟩;have hx:Below w6.heap.size w6 V6:=by rw [<-eV6];exact (hH _ _).alloc (gt _) _
   have hy:=hw6.trans (hx.mono hw6.size);have k5:=ag H5.out.2.2.2.1 hy;have k6:V6.heap[g6]?=some (aY n6.k n6.d (.slice p6 n6.c.length c6)):=by rw [<-eV6,<-hg6];exact aq _ _
   have H6:Hid (Below W.heap.size W V6/\Nv V6 (cL n5.k n5.d (.slice p5 n5.c.length c5)) n5/\Nv V6 (cL n6.k n6.d (.slice p6 n6.c.length c6)) n6/\et E []=some n5/\et E' []=some n6):=⟨H5.out.1.trans (hy.mono H5.out.1.size),H5.out.2.2.1.below hy,hn6.below hx,H5.out.2.2.2.2,hb6⟩;obtain ⟨⟨i0,i1,i2,i3,i4,i5,i6,i7⟩,il⟩:=aB k5;obtain ⟨⟨j0,j1,j2,j3,j4,j5,j6,j7⟩,jl⟩:=aB k6
   dsimp only [aY] at eV6
   clear hn6 hb6 hw6 hx hy k5 k6 H5 HP2
   go_wp2_with fail
   try rw [eV6]
   try rw [hg6]
   clear eV6 hg6
   go_wp2_with fail
   refine (HSm.out _ _ _ _ _ H6.out.2.1 H6.out.2.2.1 H6.out.2.2.2.1 H6.out.2.2.2.2).mono ?_;rintro r w7 ⟨rfl,hb7⟩;have H7:Hid (Below W.heap.size W w7):=H6.out.1.trans (hb7.mono H6.out.1.size);clear hb7 H6 HSm i0 i1 i2 i3 i4 i5 i6 i7 il j0 j1 j2 j3 j4 j5 j6 j7 jl
   by_cases hlong:262144<T.size
   ·have q2:(T.size:Int)>262144:=by omega
    clear hlong
    go_wp2_with fail
    go_ret
    exact ⟨rfl,H7.out⟩
   have q2:¬((T.size:Int)>262144):=by omega
   obtain ⟨hF2,hcs⟩:=HM.out (by omega);have HF2:=ai hF2;clear hF2 HM hlong
   go_wp2_with fail
   refine (HF2.out _ H7.out).mono ?_;rintro r w8 ⟨rfl,hb8⟩;have H8:Hid (Below W.heap.size W w8):=H7.out.trans (hb8.mono H7.out.size);clear hb8 HF2
   rcases hcs with ⟨S,hF3,hF4⟩|hX
   ·have HF3:=ai hF3;have HF4:=ai hF4;clear hF3 hF4
    go_wp2_with fail
    refine (HF3.out _ H8.out).mono ?_;rintro r w11 ⟨rfl,hb11⟩;have H11:Hid (Below W.heap.size W w11):=H8.out.trans (hb11.mono H8.out.size);clear hb11
    go_wp2_with fail
    refine (HF4.out _ H11.out).mono ?_;rintro r w12 ⟨rfl,hb12⟩;have H12:Hid (Below W.heap.size W w12):=H11.out.trans (hb12.mono H11.out.size);clear hb12
    go_wp2_with fail
    go_quiet (fail)
    go_wp2_with fail
    go_ret
    exact ⟨rfl,pS H12.out _⟩
   ·have HX:=ai hX;clear hX
    go_wp2_with fail
    refine (HX.out _ _).mono ?_;rintro r w11 ⟨g,c,x,y,u,_,rfl,_,hb11⟩;have H11:Hid (Below W.heap.size W w11):=H8.out.trans (hb11.mono H8.out.size);clear hb11
    go_wp2_with fail
    refine (HX.out _ _).mono ?_;rintro r w12 ⟨g',c',x',y',u',_,rfl,_,hb12⟩;have H12:Hid (Below W.heap.size W w12):=H11.out.trans (hb12.mono H11.out.size);clear hb12
    go_wp2_with fail
    go_quiet (fail)
    go_wp2_with fail
    go_ret
    exact ⟨rfl,pS H12.out _⟩
end Go.Proofs.YtnljjdhodelhdaaGreatDoor
