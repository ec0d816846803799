import Derived.Test.YtpdlohfdjiaegaaGreatDoorR33
import Derived.Test.YtpdlohfdjiaegaaGreatDoorR34
import Derived.Test.YtpdlohfdjiaegaaGreatDoorR38
set_option linter.unusedVariables false
set_option linter.unusedSimpArgs false
set_option maxHeartbeats 4000000
namespace Go.Proofs.YtpdlohfdjiaegaaGreatDoor
open Go.RowKit
open Lw (Dc bE rt frm dep rtT rtN dcs au aH)
variable {W W' V:World}{g:Nat}{s' a:Sy}{v:Value}{l:List Dc}
inductive Sst|live (s:Sy)|done
def Sq (S:Nat->Prop) (W:World) (g:Nat):Sst->Prop
 |.live s=>SS S W g s
 |.done=>SB W g true (.slice none 0 0) (.slice none 0 0) false 0 false false false/\S g/\∀k,S k->k<W.heap.size
theorem Sq.below {S:Nat->Prop}{st:Sst}(h:Sq S W g st) (hb:Below W.heap.size W W'):Sq S W' g st:=by
 cases st with
 |live s=>exact SS.below h hb
 |done=>exact ⟨h.1.below hb,h.2.1,fun k hk=>zz (h.2.2 k hk) hb.size⟩
theorem Sq.kp {S T:Nat->Prop}{W W':World}{g:Nat}{st:Sst}(h:Sq S W g st) (hk:Kp T W W') (hT:∀k,S k->¬T k):Sq S W' g st:=by
 cases st with
 |live s=>exact SS.kp h hk hT
 |done=>exact ⟨h.1.kp hk (hT _ h.2.1),h.2.1,fun k hs=>zz (h.2.2 k hs) hk.size⟩
theorem Sq.lt {S:Nat->Prop}{st:Sst}(h:Sq S W g st):∀k,S k->k<W.heap.size:=by cases st with|live s=>exact SS.lt h|done=>exact h.2.2
def Aq (S:Nat->Prop) (g:Nat) (W W':World) (v:Value) (l:List Dc) (st:Sst):Prop:=
 (∃S',Sq S' W' g st/\(∀k,S' k->S k\/W.heap.size<=k)/\∀k,v.ownBlock=some k->(S k\/W.heap.size<=k)/\¬S' k)/\Rd W' v l/\Kp S W W'
theorem kD {S:Nat->Prop}{g:Nat}{W W':World}{st:Sst}(h:Sq S W g st) (hb:Below W.heap.size W W'):Aq S g W W' (.slice none 0 0) [] st:=
 ⟨⟨S,h.below hb,fun _ h=>.inl h,fun k e=>by cases e⟩,fm _,Kp.of_below hb⟩
theorem wU {S:Nat->Prop}{g:Nat}{W V W':World}{s s':Sy}(hb:Below W.heap.size W V) (m:Mw S g V W' s'):Aq S g W W' (.slice none 0 0) [] (.live s'):=by
 obtain ⟨⟨S1,a1,a2⟩,hk⟩:=m;exact ⟨⟨S1,a1,fun k hs=>(a2 k hs).imp id (fun e=>zr hb.size e),fun k e=>by cases e⟩,fm _,(Kp.of_below hb).step hk (fun _ _ h=>h)⟩
theorem wV {S:Nat->Prop}(hb:Below W.heap.size W V) (m:An S g V W' v l s'):Aq S g W W' v l (.live s'):=by
 obtain ⟨⟨S1,a1,a2,a3⟩,hr,hk⟩:=m;exact ⟨⟨S1,a1,fun k hs=>(a2 k hs).imp id (fun e=>zr hb.size e),fun k e=>⟨(a3 k e).1.imp id (fun e=>zr hb.size e),(a3 k e).2⟩⟩,hr,(Kp.of_below hb).step hk (fun _ _ h=>h)⟩
def dO (e:Ev):Sst->Int × List Dc × Sst
 |.done=>(4,[],.done)
 |.live s=>match dK s e with
  |none=>(130,[],.live s)
  |some (s',l)=>(0,l,.live s')
def dP:Sst->Int × List Dc × Sst
 |.done=>(4,[],.done)
 |.live s=>match dL s with
  |none=>(130,[],.live s)
  |some l=>(0,l,.done)
def Sbd:Sst->Prop
 |.done=>True
 |.live s=>Bz 400000000 s/\∀m,s.mr=some m->m<=s.ws.length
theorem iL (W:World):Aa 10 #[] W fun rr w'=>rr=.returned (spg W.heap.size)/\Sq (fun k=>k=W.heap.size) w' W.heap.size (.live sy0)/\Below W.heap.size W w':=by
 have HX:Hid (Sq (fun k=>k=W.heap.size) (W.alloc (.cells #[.bool false,.slice none 0 0,.slice none 0 0,.bool false,.int .i64 0,.bool false,.bool false,.bool false] 74)) W.heap.size (.live sy0)/\Below W.heap.size W (W.alloc (.cells #[.bool false,.slice none 0 0,.slice none 0 0,.bool false,.int .i64 0,.bool false,.bool false,.bool false] 74))):=by
  refine ⟨show SS _ _ _ _ from ⟨⟨.slice none 0 0,.slice none 0 0,⟨ag W _,Ar _ 0 tN 3,fm _⟩,(fun k e=>by cases e),(fun k e=>by cases e)⟩,rfl,(fun k (e:k=W.heap.size)=>by rw [e];show _<(W.heap.push _).size;simp)⟩,(gt _ _).alloc (eq _) _⟩
 go_enter Tryz.func10,Tryz.ntmps10
 go_wp2_with fail
 go_ret
 exact ⟨rfl,HX.out⟩
theorem kL {S:Nat->Prop}{st:Sst}(h:Sq S W g st) (hz:Sbd st) (e:Ev) (ht:e.d.t.size<=9223372036854775807) :
  Aa 21 #[spg g,.agg #[.int .u8 e.k,.int .u8 e.n,.int .u8 e.d.k,.string e.d.t,.int .i64 e.d.a,.int .i64 e.d.l,.int .i64 e.d.c,.int .i64 e.d.f]] W fun rr w'=>∃v,rr=.returned (.tuple #[v,.int .i64 (dO e st).1])/\Aq S g W w' v (dO e st).2.1 (dO e st).2.2:=by
 obtain ⟨V,hV⟩:∃V,W.alloc (.cells #[.int .u8 e.k,.int .u8 e.n,.int .u8 e.d.k,.string e.d.t,.int .i64 e.d.a,.int .i64 e.d.l,.int .i64 e.d.c,.int .i64 e.d.f] 39)=V:=⟨_,rfl⟩;have hB:Below W.heap.size W V:=by rw [<-hV];exact (gt _ _).alloc (eq _) _
 have hE:Eb V W.heap.size e:=by rw [<-hV];exact ag _ _
 have HV:Hid (W.alloc (.cells #[.int .u8 e.k,.int .u8 e.n,.int .u8 e.d.k,.string e.d.t,.int .i64 e.d.a,.int .i64 e.d.l,.int .i64 e.d.c,.int .i64 e.d.f] 39)=V):=hV;have HB:=show Hid (Below W.heap.size W V) from hB
 clear hV;cases st with
 |done=>
  have c0:V.cell? ⟨g,0,none⟩=some (.bool true):=(h.below hB).1.cells.1;have HR:Hid (Aa 25 #[spg g] V fun r w'=>r=.returned (.int .i64 4)/\w'=V):=cV c0;have HX:Hid (Aq S g W V (.slice none 0 0) [] .done):=kD h hB;clear h hB hE c0
  go_enter C8,CJ
  go_upto_region 1 with fail
  rw [HV.out]
  go_wp2_with (go_at_call 25;refine HR.out.mono ?_;rintro r1 w1 ⟨rfl,rfl⟩)
  refine zE (v:=.tuple #[.slice none 0 0,.int .i64 4]) (by simp [results,Tryz.f21,go_sem]) rfl ?_;exact ⟨_,rfl,HX.out⟩
 |live s=>
  have hs:SS S V g s:=SS.below h hB;obtain ⟨hz1,hz2⟩:=hz;obtain ⟨vn0,vw0,hv0,_⟩:=hs.ex;have HR:Hid (Aa 25 #[spg g] V fun r w'=>r=.returned (.int .i64 0)/\w'=V):=cV hv0.sb.cells.1;have HT:Hid (Aa 34 #[spg g,.agg #[.int .u8 e.k,.int .u8 e.n,.int .u8 e.d.k,.string e.d.t,.int .i64 e.d.a,.int .i64 e.d.l,.int .i64 e.d.c,.int .i64 e.d.f]] V fun rr w'=>rr=.returned (.bool (s.may e))/\Ab V w'):=oZ hs (by have:=hz1.2.1;omega) e ht;obtain ⟨m0,m1,m2,m3,m4,m5,m6,m7⟩:=hE.cells
  by_cases hmay:s.may e=true
  ·have hpp:dO e (.live s)=(0,(s.step e).2,.live (s.step e).1):=by show (match dK s e with|none=>_|some (s',l)=>_)=_;unfold dK;rw [zw hmay]
   rw [hpp];rw [hmay] at HT;have HEb:=show Hid (∀X,Below V.heap.size V X->Eb X W.heap.size e/\SS S X g s/\Below W.heap.size W X) from fun X hX=>⟨ab hE hX,hs.below hX,hB.trans (hX.mono hB.size)⟩
   have HBz:=show Hid (Bz 400000000 s/\∀m,s.mr=some m->m<=s.ws.length) from ⟨hz1,hz2⟩
   by_cases a1:e.k=1
   ·have HO:Hid (∀X,Ab V X->Aa 35 #[spg g,.int .u8 e.n] X fun rr w'=>rr=.returned (.tuple #[])/\Aq S g W w' (.slice none 0 0) (s.step e).2 (.live (s.step e).1)):=fun X hX=>by
     refine (sa (HEb.out X hX).2.1 (HBz.out.1.mono (by omega)) e.n).mono ?_;rintro rr w' ⟨rfl,m⟩;have hst:s.step e=(s.opens e.n,[]):=by unfold Sy.step;rw [zw a1]
     rw [hst];exact ⟨rfl,wU (s:=s) (HEb.out X hX).2.2 m⟩
    have q1:(e.k == 1)=true:=by simpa using a1
    clear h hB hE hs hv0 hz1 hz2 hpp hmay a1
    go_enter C8,CJ
    go_upto_region 1 with fail
    rw [HV.out]
    go_wp2_with (first|(go_at_call 25;refine HR.out.mono ?_;rintro r1 w1 ⟨rfl,hw⟩;subst hw)|(go_at_call 34;refine HT.out.mono ?_;rintro r2 w2 ⟨rfl,hb2⟩;have HB2:=show Hid (Below w1.heap.size w1 w2) from hb2;obtain ⟨n0,n1,n2,n3,n4,n5,n6,n7⟩:=(HEb.out _ hb2).1.cells;clear hb2)|(go_at_call 35;refine (HO.out _ HB2.out).mono ?_;rintro r3 w3 ⟨rfl,hA⟩;have HX:=hid hA;clear hA))
    refine zE (v:=.tuple #[.slice none 0 0,.int .i64 0]) (by simp [results,Tryz.f21,go_sem]) rfl ?_;exact ⟨_,rfl,HX.out⟩
   ·by_cases a2:e.k=3
    ·obtain ⟨n,r,hne⟩:∃n r,s.ns=n :: r:=by
      unfold Sy.may at hmay;rw [zu a1,zw a2] at hmay;cases hq:s.ns with
      |nil=>rw [hq] at hmay;cases hmay
      |cons n r=>exact ⟨n,r,rfl⟩
     have HO:Hid (∀X,Ab V X->Aa 36 #[spg g] X fun rr w'=>rr=.returned (.tuple #[])/\Aq S g W w' (.slice none 0 0) (s.step e).2 (.live (s.step e).1)):=fun X hX=>by
      refine (qa (HEb.out X hX).2.1 HBz.out.1 hne).mono ?_;rintro rr w' ⟨rfl,m⟩;have hst:s.step e=(s.leaves,[]):=by unfold Sy.step;rw [zu a1,zw a2]
      rw [hst];exact ⟨rfl,wU (s:=s) (HEb.out X hX).2.2 m⟩
     have q1:(e.k == 1)=false:=by simpa using a1
     have q2:(e.k == 3)=true:=by simpa using a2
     clear h hB hE hs hv0 hz1 hz2 hpp hmay a1 a2 hne
     go_enter C8,CJ
     go_upto_region 1 with fail
     rw [HV.out]
     go_wp2_with (first|(go_at_call 25;refine HR.out.mono ?_;rintro r1 w1 ⟨rfl,hw⟩;subst hw)|(go_at_call 34;refine HT.out.mono ?_;rintro r2 w2 ⟨rfl,hb2⟩;have HB2:=show Hid (Below w1.heap.size w1 w2) from hb2;obtain ⟨n0,n1,n2,n3,n4,n5,n6,n7⟩:=(HEb.out _ hb2).1.cells;clear hb2)|(go_at_call 36;refine (HO.out _ HB2.out).mono ?_;rintro r3 w3 ⟨rfl,hA⟩;have HX:=hid hA;clear hA))
     refine zE (v:=.tuple #[.slice none 0 0,.int .i64 0]) (by simp [results,Tryz.f21,go_sem]) rfl ?_;exact ⟨_,rfl,HX.out⟩
    ·by_cases a3:e.k=2
     ·obtain ⟨n,r,hne⟩:∃n r,s.ns=n :: r:=by
       unfold Sy.may at hmay;rw [zu a1,zu a2,zw a3] at hmay;cases hq:s.ns with
       |nil=>rw [hq] at hmay;cases hmay
       |cons n r=>exact ⟨n,r,rfl⟩
      have HO:Hid (∀X,Ab V X->Aa 37 #[spg g,.agg #[.int .u8 e.d.k,.string e.d.t,.int .i64 e.d.a,.int .i64 e.d.l,.int .i64 e.d.c,.int .i64 e.d.f]] X fun rr w'=>∃v,rr=.returned v/\Aq S g W w' v (s.step e).2 (.live (s.step e).1)):=fun X hX=>by
       refine (sx (HEb.out X hX).2.1 (HBz.out.1.mono (by omega)) HBz.out.2 hne e.d).mono ?_;rintro rr w' ⟨v,rfl,m⟩;have hst:s.step e=s.leaf e.d:=by unfold Sy.step;rw [zu a1,zu a2,zw a3]
       rw [hst];exact ⟨v,rfl,wV (HEb.out X hX).2.2 m⟩
      have q1:(e.k == 1)=false:=by simpa using a1
      have q2:(e.k == 3)=false:=by simpa using a2
      have q3:(e.k == 2)=true:=by simpa using a3
      clear h hB hE hs hv0 hz1 hz2 hpp hmay a1 a2 a3 hne
      go_enter C8,CJ
      go_upto_region 1 with fail
      rw [HV.out]
      go_wp2_with (first|(go_at_call 25;refine HR.out.mono ?_;rintro r1 w1 ⟨rfl,hw⟩;subst hw)|(go_at_call 34;refine HT.out.mono ?_;rintro r2 w2 ⟨rfl,hb2⟩;have HB2:=show Hid (Below w1.heap.size w1 w2) from hb2;obtain ⟨n0,n1,n2,n3,n4,n5,n6,n7⟩:=(HEb.out _ hb2).1.cells;clear hb2)|(go_at_call 37;refine (HO.out _ HB2.out).mono ?_;rintro r3 w3 ⟨v3,rfl,hA⟩;have HX:=hid hA;clear hA))
      refine zE (v:=.tuple #[v3,.int .i64 0]) (by simp [results,Tryz.f21,go_sem]) rfl ?_;exact ⟨_,rfl,HX.out⟩
     ·have a4:e.k=4:=by
       apply Ap
       intro a4;unfold Sy.may at hmay;rw [zu a1,zu a2,zu a3,zu a4] at hmay;cases hmay
      have HO:Hid (∀X,Ab V X->Aa 38 #[spg g,.agg #[.int .u8 e.d.k,.string e.d.t,.int .i64 e.d.a,.int .i64 e.d.l,.int .i64 e.d.c,.int .i64 e.d.f]] X fun rr w'=>∃v,rr=.returned v/\Aq S g W w' v (s.step e).2 (.live (s.step e).1)):=fun X hX=>by
       refine (pd (HEb.out X hX).2.1 (by have:=HBz.out.1.1;omega) e.d).mono ?_;rintro rr w' ⟨v,rfl,m⟩;have hst:s.step e=s.note e.d:=by unfold Sy.step;rw [zu a1,zu a2,zu a3]
       rw [hst];exact ⟨v,rfl,wV (HEb.out X hX).2.2 m⟩
      have q1:(e.k == 1)=false:=by simpa using a1
      have q2:(e.k == 3)=false:=by simpa using a2
      have q3:(e.k == 2)=false:=by simpa using a3
      have q4:(e.k == 4)=true:=by simpa using a4
      clear h hB hE hs hv0 hz1 hz2 hpp hmay a1 a2 a3 a4
      go_enter C8,CJ
      go_upto_region 1 with fail
      rw [HV.out]
      go_wp2_with (first|(go_at_call 25;refine HR.out.mono ?_;rintro r1 w1 ⟨rfl,hw⟩;subst hw)|(go_at_call 34;refine HT.out.mono ?_;rintro r2 w2 ⟨rfl,hb2⟩;have HB2:=show Hid (Below w1.heap.size w1 w2) from hb2;obtain ⟨n0,n1,n2,n3,n4,n5,n6,n7⟩:=(HEb.out _ hb2).1.cells;clear hb2)|(go_at_call 38;refine (HO.out _ HB2.out).mono ?_;rintro r3 w3 ⟨v3,rfl,hA⟩;have HX:=hid hA;clear hA))
      refine zE (v:=.tuple #[v3,.int .i64 0]) (by simp [results,Tryz.f21,go_sem]) rfl ?_;exact ⟨_,rfl,HX.out⟩
  ·have hmay':s.may e=false:=by simpa using hmay
   have hpp:dO e (.live s)=(130,[],.live s):=by show (match dK s e with|none=>_|some (s',l)=>_)=_;unfold dK;rw [zu hmay]
   rw [hpp];rw [hmay'] at HT;have HX:Hid (∀X,Ab V X->Aq S g W X (.slice none 0 0) [] (.live s)):=fun X hX=>kD (st:=.live s) h (hB.trans (hX.mono hB.size))
   clear h hB hE hs hv0 hz1 hz2 hpp hmay hmay'
   go_enter C8,CJ
   go_upto_region 1 with fail
   rw [HV.out]
   go_wp2_with (first|(go_at_call 25;refine HR.out.mono ?_;rintro r1 w1 ⟨rfl,hw⟩;subst hw)|(go_at_call 34;refine HT.out.mono ?_;rintro r2 w2 ⟨rfl,hb2⟩;have HB2:=show Hid (Below w1.heap.size w1 w2) from hb2;clear hb2))
   refine zE (v:=.tuple #[.slice none 0 0,.int .i64 130]) (by simp [results,Tryz.f21,go_sem]) rfl ?_;exact ⟨_,rfl,HX.out _ HB2.out⟩
theorem iz {S:Nat->Prop}{st:Sst}(h:Sq S W g st) (hz:Sbd st) :
  Aa 14 #[spg g] W fun rr w'=>∃v,rr=.returned (.tuple #[v,.int .i64 (dP st).1])/\Aq S g W w' v (dP st).2.1 (dP st).2.2:=by
 cases st with
 |done=>
  have HR:Hid (Aa 25 #[spg g] W fun r w'=>r=.returned (.int .i64 4)/\w'=W):=cV h.1.cells.1;have HX:Hid (Aq S g W W (.slice none 0 0) [] .done):=kD (st:=.done) h (gt _ _);clear h
  go_enter Tryz.func14,Tryz.ntmps14
  go_wp2_with (go_at_call 25;refine HR.out.mono ?_;rintro r1 w1 ⟨rfl,hw⟩;subst hw)
  refine zE (v:=.tuple #[.slice none 0 0,.int .i64 4]) (by simp [results,Tryz.f14,go_sem]) rfl ?_;exact ⟨_,rfl,HX.out⟩
 |live s=>
  have hs:SS S W g s:=h;obtain ⟨vn,vw,hv,v1,v2⟩:=hs.ex;obtain ⟨c0,c1,c2,c3,c4,c5,c6,c7⟩:=hv.sb.cells;have HR:Hid (Aa 25 #[spg g] W fun r w'=>r=.returned (.int .i64 0)/\w'=W):=cV c0;obtain ⟨pn,cn,en,_⟩:=av hv.rn
  by_cases hn:s.ns=[]
  ·have hpp:dP (.live s)=(0,s.endl.ws,.done):=by show (match dL s with|none=>_|some l=>_)=_;unfold dL;rw [zw hn]
   rw [hpp];have c1':W.cell? ⟨g,1,none⟩=some (.slice pn 0 cn):=by rw [c1,en,hn];rfl
   have HE:Hid (Aa 26 #[spg g] W fun rr w'=>rr=.returned (.tuple #[])/\∃p n c,w'.cell? ⟨g,2,none⟩=some (.slice p n c)/\(∃vn1 vw1,SB w' g false vn1 vw1 s.endl.mr.isSome (s.endl.mr.getD 0:Nat) s.endl.wr s.endl.en s.endl.pt)/\∀w5,Kp (fun k=>k=g) w' w5->SB w5 g true (.slice none 0 0) (.slice none 0 0) false 0 false false false->Aq S g W w5 (.slice p n c) s.endl.ws .done):=by
    refine (gI hs (by have:=hz.1.1;omega)).mono ?_;rintro rr w' ⟨rfl,⟨S1,a1,a2⟩,hk,_⟩;obtain ⟨vn1,vw1,hv1,x1,x2⟩:=a1.ex;obtain ⟨p,c,e1,_⟩:=aL hv1.rd;subst e1;refine ⟨rfl,p,_,c,hv1.sb.cells.2.2.1,⟨_,_,hv1.sb⟩,fun w5 hk5 hsb=>?_⟩;have r5:Rd w5 (.slice p s.endl.ws.length c) s.endl.ws:=hk5.row hv1.rd (fun k e1 e2=>ay hv1.rd hv1.sb (by decide) (by rw [e1,e2]));have hgne:(Value.slice p s.endl.ws.length c).ownBlock≠some g:=ay hv1.rd hv1.sb (by decide);refine ⟨⟨fun k=>k=g,⟨hsb,rfl,fun k e=>by rw [e];exact hsb.lt⟩,fun k e=>.inl (by rw [e];exact hs.sg),fun k e=>⟨a2 k (x2 k e),fun e2=>hgne (by rw [<-e2];exact e)⟩⟩,r5,hk.step hk5 (fun k _ e=>by rw [e];exact hs.sg)⟩
   have q1:¬(0:Int)<0:=by omega
   clear h hs hv v1 v2 c0 c1 c2 c3 c4 c5 c6 c7 en hn hpp hz
   go_enter Tryz.func14,Tryz.ntmps14
   go_upto_region 8 with (first|(go_at_call 25;refine HR.out.mono ?_;rintro r1 w1 ⟨rfl,hw⟩;subst hw)|(go_at_call 26;refine HE.out.mono ?_;rintro r2 w2 ⟨rfl,p2,n2,c2,y1,⟨vn2,vw2,y2⟩,y3⟩;have HY:=hid y3;clear y3))
   obtain ⟨d0,d1,d2,d3,d4,d5,d6,d7⟩:=y2.cells;have f0:=y2.frozen 0;have f1:=y2.frozen 1;have f2:=y2.frozen 2;have f3:=y2.frozen 3;have f4:=y2.frozen 4;have f5:=y2.frozen 5;have f6:=y2.frozen 6;have f7:=y2.frozen 7;have HZ:=show Hid _ from HY.out ((((((((w2.setCell ⟨g,0,none⟩ (.bool true)).setCell ⟨g,1,none⟩ (.slice none 0 0)).setCell ⟨g,2,none⟩ (.slice none 0 0)).setCell ⟨g,3,none⟩ (.bool false)).setCell ⟨g,4,none⟩ (.int .i64 0)).setCell ⟨g,5,none⟩ (.bool false)).setCell ⟨g,6,none⟩ (.bool false)).setCell ⟨g,7,none⟩ (.bool false)) ((((((((Kp.set _ _ _ _).trans (Kp.set _ _ _ _)).trans (Kp.set _ _ _ _)).trans (Kp.set _ _ _ _)).trans (Kp.set _ _ _ _)).trans (Kp.set _ _ _ _)).trans (Kp.set _ _ _ _)).trans (Kp.set _ _ _ _)) (af (af (af (af (af (af (af (af y2 0 _) 1 _) 2 _) 3 _) 4 _) 5 _) 6 _) 7 _)
   clear HY y2 HE HR
   go_wp2_with fail
   refine zE (v:=.tuple #[.slice p2 n2 c2,.int .i64 0]) (by simp [results,Tryz.f14,go_sem]) rfl ?_;exact ⟨_,rfl,HZ.out⟩
  ·have hpp:dP (.live s)=(130,[],.live s):=by show (match dL s with|none=>_|some l=>_)=_;unfold dL;rw [zu hn]
   rw [hpp];have c1':W.cell? ⟨g,1,none⟩=some (.slice pn s.ns.length cn):=by rw [c1,en]
   have q1:(0:Int)<(s.ns.length:Int):=by have:s.ns.length≠0:=fun h0=>hn (zI h0);omega
   have HX:Hid (Aq S g W W (.slice none 0 0) [] (.live s)):=kD (st:=.live s) h (gt _ _);clear h hs hv v1 v2 c0 c1 c2 c3 c4 c5 c6 c7 en hn hpp hz
   go_enter Tryz.func14,Tryz.ntmps14
   go_wp2_with (go_at_call 25;refine HR.out.mono ?_;rintro r1 w1 ⟨rfl,hw⟩;subst hw)
   refine zE (v:=.tuple #[.slice none 0 0,.int .i64 130]) (by simp [results,Tryz.f14,go_sem]) rfl ?_;exact ⟨_,rfl,HX.out⟩
def DQ (S:Nat->Prop) (W:World) (g:Nat):Sst->Prop
 |.live s=>∃a,Sim a s/\DS S W g a/\Nk a/\Wk a
 |.done=>(∃vn vw i wr en pt,DB W g vn vw i wr en pt true)/\S g/\∀k,S k->k<W.heap.size
theorem DQ.kp {S T:Nat->Prop}{W W':World}{g:Nat}{st:Sst}(h:DQ S W g st) (hk:Kp T W W') (hT:∀k,S k->¬T k):DQ S W' g st:=by
 cases st with
 |live s=>
  obtain ⟨a,h1,h2,h3⟩:=h;exact ⟨a,h1,h2.kp hk hT,h3⟩
 |done=>
  obtain ⟨⟨vn,vw,i,wr,en,pt,hd⟩,h2,h3⟩:=h;exact ⟨⟨vn,vw,i,wr,en,pt,hd.kp hk (hT g h2)⟩,h2,fun k hs=>zz (h3 k hs) hk.size⟩
theorem DQ.below {S:Nat->Prop}{st:Sst}(h:DQ S W g st) (hb:Below W.heap.size W W'):DQ S W' g st:=h.kp (Kp.of_below (S:=fun _=>False) hb) (fun _ _ h=>h)
theorem DQ.lt {S:Nat->Prop}{st:Sst}(h:DQ S W g st):∀k,S k->k<W.heap.size:=by
 cases st with
 |live s=>obtain ⟨a,_,h2,_⟩:=h;exact h2.lt
 |done=>exact h.2.2
def DAq (S:Nat->Prop) (g:Nat) (W W':World) (v:Value) (l:List Dc) (st:Sst):Prop:=
 (∃S',DQ S' W' g st/\(∀k,S' k->S k\/W.heap.size<=k)/\∀k,v.ownBlock=some k->(S k\/W.heap.size<=k)/\¬S' k)/\Rof W' v l/\Kp S W W'
theorem ib {S:Nat->Prop}{g:Nat}{W W':World}{st:Sst}(h:DQ S W g st) (hb:Below W.heap.size W W'):DAq S g W W' (.slice none 0 0) [] st:=
 ⟨⟨S,h.below hb,fun _ h=>.inl h,fun k e=>by cases e⟩,fj _,Kp.of_below hb⟩
theorem tC {S:Nat->Prop}(hb:Below W.heap.size W V) (m:DM S g V W' a) (h1:Sim a s') (h2:Nk a) (h3:Wk a):DAq S g W W' (.slice none 0 0) [] (.live s'):=by
 obtain ⟨⟨S1,a1,a2⟩,hk⟩:=m;exact ⟨⟨S1,⟨a,h1,a1,h2,h3⟩,fun k hs=>(a2 k hs).imp id (fun e=>zr hb.size e),fun k e=>by cases e⟩,fj _,(Kp.of_below hb).step hk (fun _ _ h=>h)⟩
theorem tE {S:Nat->Prop}(hb:Below W.heap.size W V) (m:DA S g V W' v l a) (h1:Sim a s') (h2:Nk a) (h3:Wk a):DAq S g W W' v l (.live s'):=by
 obtain ⟨⟨S1,a1,a2,a3⟩,hr,hk⟩:=DA.first hb m
 exact ⟨⟨S1,⟨a,h1,a1,h2,h3⟩,a2,a3⟩,hr,hk⟩
def Sbe:Sst->Prop
 |.done=>True
 |.live s=>Bdd 300000000 s/\∀m,s.mr=some m->m<=s.ws.length
theorem Bdd.sim {B:Nat}{s:Sy}(h:Bdd B s) (hs:Sim a s):Bdd B a:=by
 refine ⟨by rw [hs.ws];exact h.1,by rw [hs.len];exact h.2.1,fun x hx=>?_⟩;have:nm x∈s.ns.map nm:=by rw [<-hs.ns];exact Cf.2 ⟨x,hx,rfl⟩
 obtain ⟨y,hy,e⟩:=Cf.1 this;have:=h.2.2 y hy;rw [<-(iK e).2.1];exact this
theorem rF (W:World):Aa 11 #[] W fun rr w'=>rr=.returned (spg W.heap.size)/\DQ (fun k=>k=W.heap.size) w' W.heap.size (.live sy0)/\Below W.heap.size W w':=by
 have HX:Hid (DQ (fun k=>k=W.heap.size) (W.alloc (.cells #[.slice none 0 0,.slice none 0 0,.int .i64 (-1),.bool false,.bool false,.bool false,.bool false] 77)) W.heap.size (.live sy0)/\Below W.heap.size W (W.alloc (.cells #[.slice none 0 0,.slice none 0 0,.int .i64 (-1),.bool false,.bool false,.bool false,.bool false] 77))):=by
  refine ⟨⟨sy0,⟨rfl,rfl,rfl,rfl,rfl,rfl⟩,⟨⟨.slice none 0 0,.slice none 0 0,⟨ag W _,Ar _ 0 tM 3,fj _⟩,(fun k e=>by cases e),(fun k e=>by cases e)⟩,rfl,(fun k (e:k=W.heap.size)=>by rw [e];show _<(W.heap.push _).size;simp)⟩,(fun n hn=>by cases hn),(fun d hd=>by cases hd)⟩,(gt _ _).alloc (eq _) _⟩
 go_enter Tryz.func11,Tryz.ntmps11
 go_wp2_with fail
 go_ret
 exact ⟨rfl,HX.out⟩
theorem rC {S:Nat->Prop}{st:Sst}(h:DQ S W g st) (hz:Sbe st) (e:Ev) (ht:e.d.t.size<=9223372036854775807) :
  Aa 24 #[spg g,.agg #[.int .u8 e.k,.int .u8 e.n,.int .u8 e.d.k,.string e.d.t,.int .i64 e.d.a,.int .i64 e.d.l,.int .i64 e.d.c,.int .i64 e.d.f]] W fun rr w'=>∃v,rr=.returned (.tuple #[v,.int .i64 (dO e st).1])/\DAq S g W w' v (dO e st).2.1 (dO e st).2.2:=by
 obtain ⟨V,hV⟩:∃V,W.alloc (.cells #[.int .u8 e.k,.int .u8 e.n,.int .u8 e.d.k,.string e.d.t,.int .i64 e.d.a,.int .i64 e.d.l,.int .i64 e.d.c,.int .i64 e.d.f] 39)=V:=⟨_,rfl⟩;have hB:Below W.heap.size W V:=by rw [<-hV];exact (gt _ _).alloc (eq _) _
 have hE:Eb V W.heap.size e:=by rw [<-hV];exact ag _ _
 have HV:Hid (W.alloc (.cells #[.int .u8 e.k,.int .u8 e.n,.int .u8 e.d.k,.string e.d.t,.int .i64 e.d.a,.int .i64 e.d.l,.int .i64 e.d.c,.int .i64 e.d.f] 39)=V):=hV;clear hV;have hq:=h.below hB;cases st with
 |done=>
  obtain ⟨⟨vn,vw,i,wr,en,pt,hd⟩,h2,h3⟩:=hq;obtain ⟨c0,c1,c2,c3,c4,c5,c6⟩:=hd.cells;have hgl:=hd.lt;have HX:Hid (DAq S g W V (.slice none 0 0) [] .done):=ib h hB;clear h hB hE hd h2 h3 c0 c1 c2 c3 c4 c5
  go_enter C9,CK
  go_upto_region 1 with fail
  rw [HV.out]
  go_wp2_with fail
  refine zE (v:=.tuple #[.slice none 0 0,.int .i64 4]) (by simp [results,Tryz.f24,go_sem]) rfl ?_;exact ⟨_,rfl,HX.out⟩
 |live s=>
  obtain ⟨a,hsim,hds,hnk,hwk⟩:=hq;obtain ⟨hz1,hz2⟩:=hz;have hbd:=hz1.sim hsim;obtain ⟨_,_,_,_,_,_,_,_,_,_,c6,_,_⟩:=hds.cells';have hgl:=hds.glt;obtain ⟨m0,m1,m2,m3,m4,m5,m6,m7⟩:=hE.cells;have hEl:=ah hE
  have HM:Hid (Aa 41 #[spg g,.agg #[.int .u8 e.k,.int .u8 e.n,.int .u8 e.d.k,.string e.d.t,.int .i64 e.d.a,.int .i64 e.d.l,.int .i64 e.d.c,.int .i64 e.d.f]] V fun rr w'=>rr=.returned (.bool (s.may e))/\Ab V w'):=by
   rw [<-hsim.may e];exact vu hds (by have:=hbd.2.1;omega) e ht
  have HEb:Hid (∀X,Ab V X->Eb X W.heap.size e/\DS S X g a/\Ab W X/\W.heap.size<X.heap.size/\g<X.heap.size):=fun X hX=>⟨ab hE hX,hds.below hX,hB.trans (hX.mono hB.size),ah (ab hE hX),(hds.below hX).glt⟩
  by_cases hmay:s.may e=true
  ·have hpp:dO e (.live s)=(0,(s.step e).2,.live (s.step e).1):=by show (match dK s e with|none=>_|some (s',l)=>_)=_;unfold dK;rw [zw hmay]
   rw [hpp];rw [hmay] at HM;have hmaya:a.may e=true:=by rw [hsim.may];exact hmay
   by_cases a1:e.k=1
   ·have hn12:1<=e.n/\e.n<=32:=by
     unfold Sy.may at hmay;rw [zw a1,zP] at hmay;exact ⟨zQ hmay.1,zQ hmay.2⟩
    have HO:Hid (∀X,Ab V X->Aa 42 #[spg g,.int .u8 e.n] X fun rr w'=>rr=.returned (.tuple #[])/\DAq S g W w' (.slice none 0 0) (s.step e).2 (.live (s.step e).1)):=fun X hX=>by
     refine (pM (HEb.out X hX).2.1 e.n (hbd.mono (by omega))).mono ?_;rintro rr w' ⟨rfl,m⟩;have hst:s.step e=(s.opens e.n,[]):=by unfold Sy.step;rw [zw a1]
     rw [hst];exact ⟨rfl,tC (HEb.out X hX).2.2.1 m (hsim.opens e.n) (hnk.dopens hn12.1 hn12.2) (hwk.dopens e.n)⟩
    have q1:(e.k == 1)=true:=by simpa using a1
    clear h hB hE hds hz1 hz2 hpp hmay hmaya a1 hbd hsim hnk hwk hn12
    go_enter C9,CK
    go_upto_region 1 with fail
    rw [HV.out]
    go_wp2_with (first|(go_at_call 41;refine HM.out.mono ?_;rintro r2 w2 ⟨rfl,hb2⟩;have HB2:=show Hid (Below V.heap.size V w2) from hb2;obtain ⟨n0,n1,n2,n3,n4,n5,n6,n7⟩:=(HEb.out _ hb2).1.cells;obtain ⟨_,_,_,l1,l2⟩:=HEb.out _ hb2;clear hb2)|(go_at_call 42;refine (HO.out _ HB2.out).mono ?_;rintro r3 w3 ⟨rfl,hA⟩;have HX:=show Hid (DAq S g W w3 (.slice none 0 0) (s.step e).2 (.live (s.step e).1)) from hA;clear hA))
    refine zE (v:=.tuple #[.slice none 0 0,.int .i64 0]) (by simp [results,Tryz.f24,go_sem]) rfl ?_;exact ⟨_,rfl,HX.out⟩
   ·by_cases a2:e.k=3
    ·obtain ⟨n,r,hne⟩:∃n r,a.ns=n :: r:=by
      unfold Sy.may at hmaya;rw [zu a1,zw a2] at hmaya;cases hq:a.ns with
      |nil=>rw [hq] at hmaya;cases hmaya
      |cons n r=>exact ⟨n,r,rfl⟩
     have HO:Hid (∀X,Ab V X->Aa 43 #[spg g] X fun rr w'=>rr=.returned (.tuple #[])/\DAq S g W w' (.slice none 0 0) (s.step e).2 (.live (s.step e).1)):=fun X hX=>by
      refine (nw (HEb.out X hX).2.1 hne (hbd.mono (by omega))).mono ?_;rintro rr w' ⟨rfl,m⟩;have hst:s.step e=(s.leaves,[]):=by unfold Sy.step;rw [zu a1,zw a2]
      rw [hst];exact ⟨rfl,tC (HEb.out X hX).2.2.1 m hsim.leaves hnk.leaves hwk.leaves⟩
     have q1:(e.k == 1)=false:=by simpa using a1
     have q2:(e.k == 3)=true:=by simpa using a2
     clear h hB hE hds hz1 hz2 hpp hmay hmaya a1 a2 hbd hsim hnk hwk hne
     go_enter C9,CK
     go_upto_region 1 with fail
     rw [HV.out]
     go_wp2_with (first|(go_at_call 41;refine HM.out.mono ?_;rintro r2 w2 ⟨rfl,hb2⟩;have HB2:=show Hid (Below V.heap.size V w2) from hb2;obtain ⟨n0,n1,n2,n3,n4,n5,n6,n7⟩:=(HEb.out _ hb2).1.cells;obtain ⟨_,_,_,l1,l2⟩:=HEb.out _ hb2;clear hb2)|(go_at_call 43;refine (HO.out _ HB2.out).mono ?_;rintro r3 w3 ⟨rfl,hA⟩;have HX:=show Hid (DAq S g W w3 (.slice none 0 0) (s.step e).2 (.live (s.step e).1)) from hA;clear hA))
     refine zE (v:=.tuple #[.slice none 0 0,.int .i64 0]) (by simp [results,Tryz.f24,go_sem]) rfl ?_;exact ⟨_,rfl,HX.out⟩
    ·have q1:(e.k == 1)=false:=by simpa using a1
     have q2:(e.k == 3)=false:=by simpa using a2
     by_cases a3:e.k=2
     ·obtain ⟨n,r,hne⟩:∃n r,a.ns=n :: r:=by
       unfold Sy.may at hmaya;rw [zu a1,zu a2,zw a3] at hmaya;cases hq:a.ns with
       |nil=>rw [hq] at hmaya;cases hmaya
       |cons n r=>exact ⟨n,r,rfl⟩
      have hkn:=hnk n (by rw [hne];exact zV)
      have HO:Hid (∀X,Ab V X->Aa 44 #[spg g,.agg #[.int .u8 e.d.k,.string e.d.t,.int .i64 e.d.a,.int .i64 e.d.l,.int .i64 e.d.c,.int .i64 e.d.f]] X fun rr w'=>∃v,rr=.returned v/\DAq S g W w' v (s.step e).2 (.live (s.step e).1)):=fun X hX=>by
       refine (pu (HEb.out X hX).2.1 hbd (by rw [hsim.mr,hsim.ws];exact hz2) hwk hne hkn.1 hkn.2 e.d).mono ?_;rintro rr w' ⟨v,rfl,m⟩;have hst:s.step e=s.leaf e.d:=by unfold Sy.step;rw [zu a1,zu a2,zw a3]
       obtain ⟨s1,s2⟩:=hsim.leaf e.d;rw [hst,<-s2];exact ⟨v,rfl,tE (HEb.out X hX).2.2.1 m s1 (hnk.leaf _) (hwk.leaf _)⟩
      have q3:(e.k == 2)=true:=by simpa using a3
      clear h hB hE hds hz1 hz2 hpp hmay hmaya a1 a2 a3 hbd hsim hnk hwk hne hkn
      go_enter C9,CK
      go_upto_region 1 with fail
      rw [HV.out]
      go_wp2_with (first|(go_at_call 41;refine HM.out.mono ?_;rintro r2 w2 ⟨rfl,hb2⟩;have HB2:=show Hid (Below V.heap.size V w2) from hb2;obtain ⟨n0,n1,n2,n3,n4,n5,n6,n7⟩:=(HEb.out _ hb2).1.cells;obtain ⟨_,_,_,l1,l2⟩:=HEb.out _ hb2;clear hb2)|(go_at_call 44;refine (HO.out _ HB2.out).mono ?_;rintro r3 w3 ⟨v3,rfl,hA⟩;have HX:=show Hid (DAq S g W w3 v3 (s.step e).2 (.live (s.step e).1)) from hA;clear hA))
      refine zE (v:=.tuple #[v3,.int .i64 0]) (by simp [results,Tryz.f24,go_sem]) rfl ?_;exact ⟨_,rfl,HX.out⟩
     ·have HO:Hid (∀X,Ab V X->Aa 45 #[spg g,.agg #[.int .u8 e.d.k,.string e.d.t,.int .i64 e.d.a,.int .i64 e.d.l,.int .i64 e.d.c,.int .i64 e.d.f]] X fun rr w'=>∃v,rr=.returned v/\DAq S g W w' v (s.step e).2 (.live (s.step e).1)):=fun X hX=>by
       refine (po (HEb.out X hX).2.1 hbd e.d).mono ?_;rintro rr w' ⟨v,rfl,m⟩;have hst:s.step e=s.note e.d:=by unfold Sy.step;rw [zu a1,zu a2,zu a3]
       obtain ⟨s1,s2⟩:=hsim.note e.d;rw [hst,<-s2];exact ⟨v,rfl,tE (HEb.out X hX).2.2.1 m s1 (hnk.note _) (hwk.note _)⟩
      have q3:(e.k == 2)=false:=by simpa using a3
      clear h hB hE hds hz1 hz2 hpp hmay hmaya a1 a2 a3 hbd hsim hnk hwk
      go_enter C9,CK
      go_upto_region 1 with fail
      rw [HV.out]
      go_wp2_with (first|(go_at_call 41;refine HM.out.mono ?_;rintro r2 w2 ⟨rfl,hb2⟩;have HB2:=show Hid (Below V.heap.size V w2) from hb2;obtain ⟨n0,n1,n2,n3,n4,n5,n6,n7⟩:=(HEb.out _ hb2).1.cells;obtain ⟨_,_,_,l1,l2⟩:=HEb.out _ hb2;clear hb2)|(go_at_call 45;refine (HO.out _ HB2.out).mono ?_;rintro r3 w3 ⟨v3,rfl,hA⟩;have HX:=show Hid (DAq S g W w3 v3 (s.step e).2 (.live (s.step e).1)) from hA;clear hA))
      refine zE (v:=.tuple #[v3,.int .i64 0]) (by simp [results,Tryz.f24,go_sem]) rfl ?_;exact ⟨_,rfl,HX.out⟩
  ·have hmay':s.may e=false:=by simpa using hmay
   have hpp:dO e (.live s)=(130,[],.live s):=by show (match dK s e with|none=>_|some (s',l)=>_)=_;unfold dK;rw [zu hmay]
   rw [hpp];rw [hmay'] at HM;have HN:Hid (∀X,Ab V X->DAq S g W X (.slice none 0 0) [] (.live s)):=fun X hX=>ib (st:=.live s) h (HEb.out X hX).2.2.1
   clear h hB hE hds hz1 hz2 hpp hmay hmay' hbd hsim hnk hwk
   go_enter C9,CK
   go_upto_region 1 with fail
   rw [HV.out]
   go_wp2_with (go_at_call 41;refine HM.out.mono ?_;rintro r2 w2 ⟨rfl,hb2⟩;have HX:=show Hid (DAq S g W w2 (.slice none 0 0) [] (.live s)) from HN.out _ hb2;clear hb2)
   refine zE (v:=.tuple #[.slice none 0 0,.int .i64 130]) (by simp [results,Tryz.f24,go_sem]) rfl ?_;exact ⟨_,rfl,HX.out⟩
end Go.Proofs.YtpdlohfdjiaegaaGreatDoor
