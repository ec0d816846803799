import Derived.Test.YtjiepkenkcgkhaaGreatDoorM36
set_option linter.unusedVariables false
set_option linter.unusedSimpArgs false
set_option maxHeartbeats 2000000
namespace Go.Proofs.YtjiepkenkcgkhaaGreatDoor
open Go.RowKit
open Lw (Dc bE rt cy dh eZ ij bU aW cg)
variable {s s':Sy}{W W':World}{g:Nat}{l:List Dc}
inductive wD|live (s:Sy)|done
def Sq (S:Nat->Prop) (W:World) (g:Nat):wD->Prop
 |.live s=>SS S W g s
 |.done=>SB W g true (.slice none 0 0) (.slice none 0 0) false 0 false false false/\S g/\∀k,S k->k<W.heap.size
theorem Sq.below {S:Nat->Prop}{st:wD}(h:Sq S W g st) (hb:Below W.heap.size W W'):Sq S W' g st:=by
 cases st with
 |live s=>exact SS.below h hb
 |done=>exact ⟨h.1.below hb,h.2.1,fun k hk=>Q1 (h.2.2 k hk) hb.size⟩
theorem Sq.kp {S T:Nat->Prop}{W W':World}{g:Nat}{st:wD}(h:Sq S W g st) (hk:Kp T W W') (hT:∀k,S k->¬T k):Sq S W' g st:=by
 cases st with
 |live s=>exact SS.kp h hk hT
 |done=>exact ⟨h.1.kp hk (hT _ h.2.1),h.2.1,fun k hs=>Q1 (h.2.2 k hs) hk.size⟩
theorem Sq.lt {S:Nat->Prop}{st:wD}(h:Sq S W g st):∀k,S k->k<W.heap.size:=by cases st with|live s=>exact SS.lt h|done=>exact h.2.2
def Aq (S:Nat->Prop) (g:Nat) (W W':World) (v:Value) (l:List Dc) (st:wD):Prop:=
 (∃S',Sq S' W' g st/\(∀k,S' k->S k\/W.heap.size<=k)/\∀k,v.ownBlock=some k->(S k\/W.heap.size<=k)/\¬S' k)/\Rd W' v l/\Kp S W W'
theorem tQ {S:Nat->Prop}{g:Nat}{W W':World}{st:wD}(h:Sq S W g st) (hb:Below W.heap.size W W'):Aq S g W W' (.slice none 0 0) [] st:=
 ⟨⟨S,h.below hb,fun _ h=>.inl h,fun k e=>by cases e⟩,lA _,Kp.of_below hb⟩
theorem K8 {S:Nat->Prop}{g:Nat}{W V W':World}{s s':Sy}(hb:Below W.heap.size W V) (m:Mw S g V W' s'):Aq S g W W' (.slice none 0 0) [] (.live s'):=by
 obtain ⟨⟨S1,a1,a2⟩,hk⟩:=m;exact ⟨⟨S1,a1,fun k hs=>(a2 k hs).imp id (fun e=>QQ hb.size e),fun k e=>by cases e⟩,lA _,(Kp.of_below hb).step hk (fun _ _ h=>h)⟩
theorem La {S:Nat->Prop}{V:World}{v:Value}(hb:Below W.heap.size W V) (m:An S g V W' v l s'):Aq S g W W' v l (.live s'):=by
 obtain ⟨⟨S1,a1,a2,a3⟩,hr,hk⟩:=m;exact ⟨⟨S1,a1,fun k hs=>(a2 k hs).imp id (fun e=>QQ hb.size e),fun k e=>⟨(a3 k e).1.imp id (fun e=>QQ hb.size e),(a3 k e).2⟩⟩,hr,(Kp.of_below hb).step hk (fun _ _ h=>h)⟩
def Bg (e:Ev):wD->Int × List Dc × wD
 |.done=>(4,[],.done)
 |.live s=>match dy s e with
  |none=>(130,[],.live s)
  |some (s',l)=>(0,l,.live s')
def xx:wD->Int × List Dc × wD
 |.done=>(4,[],.done)
 |.live s=>match ic s with
  |none=>(130,[],.live s)
  |some l=>(0,l,.done)
def Ph:wD->Prop
 |.done=>True
 |.live s=>Bz 400000000 s/\∀m,s.mr=some m->m<=s.ws.length
theorem xz (W:World):Ra 29 #[] W fun rr w'=>rr=.returned (bV W.heap.size)/\Sq (fun k=>k=W.heap.size) w' W.heap.size (.live qd)/\Below W.heap.size W w':=by
 have HX:Hid (Sq (fun k=>k=W.heap.size) (W.alloc (.cells #[.bool false,.slice none 0 0,.slice none 0 0,.bool false,.int .i64 0,.bool false,.bool false,.bool false] 147)) W.heap.size (.live qd)/\Below W.heap.size W (W.alloc (.cells #[.bool false,.slice none 0 0,.slice none 0 0,.bool false,.int .i64 0,.bool false,.bool false,.bool false] 147))):=by
  refine ⟨show SS _ _ _ _ from ⟨⟨.slice none 0 0,.slice none 0 0,⟨au W _,RR _ 0 tN 3,lA _⟩,(fun k e=>by cases e),(fun k e=>by cases e)⟩,rfl,(fun k (e:k=W.heap.size)=>by rw [e];show _<(W.heap.push _).size;simp)⟩,(hH _ _).alloc (gt _) _⟩
 go_enter Tryz.func29,Tryz.ntmps29
 go_wp2_with fail
 go_ret
 exact ⟨rfl,HX.out⟩
theorem Di {S:Nat->Prop}{st:wD}(h:Sq S W g st) (hz:Ph st) (e:Ev) (ht:e.d.t.size<=9223372036854775807) :
  Ra 31 #[bV g,.agg #[.int .u8 e.k,.int .u8 e.n,.int .u8 e.d.k,.string e.d.t,.int .i64 e.d.a,.int .i64 e.d.l,.int .i64 e.d.c,.int .i64 e.d.f]] W fun rr w'=>∃v,rr=.returned (.tuple #[v,.int .i64 (Bg e st).1])/\Aq S g W w' v (Bg e st).2.1 (Bg e st).2.2:=by
 obtain ⟨V,hV⟩:∃V,W.alloc (.cells #[.int .u8 e.k,.int .u8 e.n,.int .u8 e.d.k,.string e.d.t,.int .i64 e.d.a,.int .i64 e.d.l,.int .i64 e.d.c,.int .i64 e.d.f] 94)=V:=⟨_,rfl⟩;have hB:Below W.heap.size W V:=by rw [<-hV];exact (hH _ _).alloc (gt _) _
 have hE:Eb V W.heap.size e:=by rw [<-hV];exact au _ _
 have HV:Hid (W.alloc (.cells #[.int .u8 e.k,.int .u8 e.n,.int .u8 e.d.k,.string e.d.t,.int .i64 e.d.a,.int .i64 e.d.l,.int .i64 e.d.c,.int .i64 e.d.f] 94)=V):=hV;have HB:=show Hid (Below W.heap.size W V) from hB
 clear hV;cases st with
 |done=>
  have c0:V.cell? ⟨g,0,none⟩=some (.bool true):=(h.below hB).1.cells.1;have HR:Hid (Ra 72 #[bV g] V fun r w'=>r=.returned (.int .i64 4)/\w'=V):=fG c0;have HX:Hid (Aq S g W V (.slice none 0 0) [] .done):=tQ h hB;clear h hB hE c0
  go_enter UE,Ui
  go_upto_region 1 with fail
  rw [HV.out]
  go_wp2_with (go_at_call 72;refine HR.out.mono ?_;rintro r1 w1 ⟨rfl,rfl⟩)
  refine QV (v:=.tuple #[.slice none 0 0,.int .i64 4]) (by simp [results,Tryz.f31,go_sem]) rfl ?_;exact ⟨_,rfl,HX.out⟩
 |live s=>
  have hs:SS S V g s:=SS.below h hB;obtain ⟨hz1,hz2⟩:=hz;obtain ⟨vn0,vw0,hv0,_⟩:=hs.ex;have HR:Hid (Ra 72 #[bV g] V fun r w'=>r=.returned (.int .i64 0)/\w'=V):=fG hv0.sb.cells.1;have HT:Hid (Ra 73 #[bV g,.agg #[.int .u8 e.k,.int .u8 e.n,.int .u8 e.d.k,.string e.d.t,.int .i64 e.d.a,.int .i64 e.d.l,.int .i64 e.d.c,.int .i64 e.d.f]] V fun rr w'=>rr=.returned (.bool (s.may e))/\Rc V w'):=AE hs (by have:=hz1.2.1;omega) e ht;obtain ⟨m0,m1,m2,m3,m4,m5,m6,m7⟩:=hE.cells
  by_cases hmay:s.may e=true
  ·have hpp:Bg e (.live s)=(0,(s.step e).2,.live (s.step e).1):=by show (match dy s e with|none=>_|some (s',l)=>_)=_;unfold dy;rw [IO hmay]
   rw [hpp];rw [hmay] at HT;have HEb:=show Hid (∀X,Below V.heap.size V X->Eb X W.heap.size e/\SS S X g s/\Below W.heap.size W X) from fun X hX=>⟨ag hE hX,hs.below hX,hB.trans (hX.mono hB.size)⟩
   have HBz:=show Hid (Bz 400000000 s/\∀m,s.mr=some m->m<=s.ws.length) from ⟨hz1,hz2⟩
   by_cases a1:e.k=1
   ·have HO:Hid (∀X,Rc V X->Ra 74 #[bV g,.int .u8 e.n] X fun rr w'=>rr=.returned (.tuple #[])/\Aq S g W w' (.slice none 0 0) (s.step e).2 (.live (s.step e).1)):=fun X hX=>by
     refine (Ea (HEb.out X hX).2.1 (HBz.out.1.mono (by omega)) e.n).mono ?_;rintro rr w' ⟨rfl,m⟩;have hst:s.step e=(s.opens e.n,[]):=by unfold Sy.step;rw [IO a1]
     rw [hst];exact ⟨rfl,K8 (s:=s) (HEb.out X hX).2.2 m⟩
    have q1:(e.k == 1)=true:=by simpa using a1
    clear h hB hE hs hv0 hz1 hz2 hpp hmay a1
    go_enter UE,Ui
    go_upto_region 1 with fail
    rw [HV.out]
    go_wp2_with (first|(go_at_call 72;refine HR.out.mono ?_;rintro r1 w1 ⟨rfl,hw⟩;subst hw)|(go_at_call 73;refine HT.out.mono ?_;rintro r2 w2 ⟨rfl,hb2⟩;have HB2:=show Hid (Below w1.heap.size w1 w2) from hb2;obtain ⟨n0,n1,n2,n3,n4,n5,n6,n7⟩:=(HEb.out _ hb2).1.cells;clear hb2)|(go_at_call 74;refine (HO.out _ HB2.out).mono ?_;rintro r3 w3 ⟨rfl,hA⟩;have HX:=ai hA;clear hA))
    refine QV (v:=.tuple #[.slice none 0 0,.int .i64 0]) (by simp [results,Tryz.f31,go_sem]) rfl ?_;exact ⟨_,rfl,HX.out⟩
   ·by_cases a2:e.k=3
    ·obtain ⟨n,r,hne⟩:∃n r,s.ns=n :: r:=by
      unfold Sy.may at hmay;rw [Eq a1,IO a2] at hmay;cases hq:s.ns with
      |nil=>rw [hq] at hmay;cases hmay
      |cons n r=>exact ⟨n,r,rfl⟩
     have HO:Hid (∀X,Rc V X->Ra 75 #[bV g] X fun rr w'=>rr=.returned (.tuple #[])/\Aq S g W w' (.slice none 0 0) (s.step e).2 (.live (s.step e).1)):=fun X hX=>by
      refine (BA (HEb.out X hX).2.1 HBz.out.1 hne).mono ?_;rintro rr w' ⟨rfl,m⟩;have hst:s.step e=(s.leaves,[]):=by unfold Sy.step;rw [Eq a1,IO a2]
      rw [hst];exact ⟨rfl,K8 (s:=s) (HEb.out X hX).2.2 m⟩
     have q1:(e.k == 1)=false:=by simpa using a1
     have q2:(e.k == 3)=true:=by simpa using a2
     clear h hB hE hs hv0 hz1 hz2 hpp hmay a1 a2 hne
     go_enter UE,Ui
     go_upto_region 1 with fail
     rw [HV.out]
     go_wp2_with (first|(go_at_call 72;refine HR.out.mono ?_;rintro r1 w1 ⟨rfl,hw⟩;subst hw)|(go_at_call 73;refine HT.out.mono ?_;rintro r2 w2 ⟨rfl,hb2⟩;have HB2:=show Hid (Below w1.heap.size w1 w2) from hb2;obtain ⟨n0,n1,n2,n3,n4,n5,n6,n7⟩:=(HEb.out _ hb2).1.cells;clear hb2)|(go_at_call 75;refine (HO.out _ HB2.out).mono ?_;rintro r3 w3 ⟨rfl,hA⟩;have HX:=ai hA;clear hA))
     refine QV (v:=.tuple #[.slice none 0 0,.int .i64 0]) (by simp [results,Tryz.f31,go_sem]) rfl ?_;exact ⟨_,rfl,HX.out⟩
    ·by_cases a3:e.k=2
     ·obtain ⟨n,r,hne⟩:∃n r,s.ns=n :: r:=by
       unfold Sy.may at hmay;rw [Eq a1,Eq a2,IO a3] at hmay;cases hq:s.ns with
       |nil=>rw [hq] at hmay;cases hmay
       |cons n r=>exact ⟨n,r,rfl⟩
      have HO:Hid (∀X,Rc V X->Ra 76 #[bV g,.agg #[.int .u8 e.d.k,.string e.d.t,.int .i64 e.d.a,.int .i64 e.d.l,.int .i64 e.d.c,.int .i64 e.d.f]] X fun rr w'=>∃v,rr=.returned v/\Aq S g W w' v (s.step e).2 (.live (s.step e).1)):=fun X hX=>by
       refine (EB (HEb.out X hX).2.1 (HBz.out.1.mono (by omega)) HBz.out.2 hne e.d).mono ?_;rintro rr w' ⟨v,rfl,m⟩;have hst:s.step e=s.leaf e.d:=by unfold Sy.step;rw [Eq a1,Eq a2,IO a3]
       rw [hst];exact ⟨v,rfl,La (HEb.out X hX).2.2 m⟩
      have q1:(e.k == 1)=false:=by simpa using a1
      have q2:(e.k == 3)=false:=by simpa using a2
      have q3:(e.k == 2)=true:=by simpa using a3
      clear h hB hE hs hv0 hz1 hz2 hpp hmay a1 a2 a3 hne
      go_enter UE,Ui
      go_upto_region 1 with fail
      rw [HV.out]
      go_wp2_with (first|(go_at_call 72;refine HR.out.mono ?_;rintro r1 w1 ⟨rfl,hw⟩;subst hw)|(go_at_call 73;refine HT.out.mono ?_;rintro r2 w2 ⟨rfl,hb2⟩;have HB2:=show Hid (Below w1.heap.size w1 w2) from hb2;obtain ⟨n0,n1,n2,n3,n4,n5,n6,n7⟩:=(HEb.out _ hb2).1.cells;clear hb2)|(go_at_call 76;refine (HO.out _ HB2.out).mono ?_;rintro r3 w3 ⟨v3,rfl,hA⟩;have HX:=ai hA;clear hA))
      refine QV (v:=.tuple #[v3,.int .i64 0]) (by simp [results,Tryz.f31,go_sem]) rfl ?_;exact ⟨_,rfl,HX.out⟩
     ·have a4:e.k=4:=by
       apply Rv
       intro a4;unfold Sy.may at hmay;rw [Eq a1,Eq a2,Eq a3,Eq a4] at hmay;cases hmay
      have HO:Hid (∀X,Rc V X->Ra 77 #[bV g,.agg #[.int .u8 e.d.k,.string e.d.t,.int .i64 e.d.a,.int .i64 e.d.l,.int .i64 e.d.c,.int .i64 e.d.f]] X fun rr w'=>∃v,rr=.returned v/\Aq S g W w' v (s.step e).2 (.live (s.step e).1)):=fun X hX=>by
       refine (AK (HEb.out X hX).2.1 (by have:=HBz.out.1.1;omega) e.d).mono ?_;rintro rr w' ⟨v,rfl,m⟩;have hst:s.step e=s.note e.d:=by unfold Sy.step;rw [Eq a1,Eq a2,Eq a3]
       rw [hst];exact ⟨v,rfl,La (HEb.out X hX).2.2 m⟩
      have q1:(e.k == 1)=false:=by simpa using a1
      have q2:(e.k == 3)=false:=by simpa using a2
      have q3:(e.k == 2)=false:=by simpa using a3
      have q4:(e.k == 4)=true:=by simpa using a4
      clear h hB hE hs hv0 hz1 hz2 hpp hmay a1 a2 a3 a4
      go_enter UE,Ui
      go_upto_region 1 with fail
      rw [HV.out]
      go_wp2_with (first|(go_at_call 72;refine HR.out.mono ?_;rintro r1 w1 ⟨rfl,hw⟩;subst hw)|(go_at_call 73;refine HT.out.mono ?_;rintro r2 w2 ⟨rfl,hb2⟩;have HB2:=show Hid (Below w1.heap.size w1 w2) from hb2;obtain ⟨n0,n1,n2,n3,n4,n5,n6,n7⟩:=(HEb.out _ hb2).1.cells;clear hb2)|(go_at_call 77;refine (HO.out _ HB2.out).mono ?_;rintro r3 w3 ⟨v3,rfl,hA⟩;have HX:=ai hA;clear hA))
      refine QV (v:=.tuple #[v3,.int .i64 0]) (by simp [results,Tryz.f31,go_sem]) rfl ?_;exact ⟨_,rfl,HX.out⟩
  ·have hmay':s.may e=false:=by simpa using hmay
   have hpp:Bg e (.live s)=(130,[],.live s):=by show (match dy s e with|none=>_|some (s',l)=>_)=_;unfold dy;rw [Eq hmay]
   rw [hpp];rw [hmay'] at HT;have HX:Hid (∀X,Rc V X->Aq S g W X (.slice none 0 0) [] (.live s)):=fun X hX=>tQ (st:=.live s) h (hB.trans (hX.mono hB.size))
   clear h hB hE hs hv0 hz1 hz2 hpp hmay hmay'
   go_enter UE,Ui
   go_upto_region 1 with fail
   rw [HV.out]
   go_wp2_with (first|(go_at_call 72;refine HR.out.mono ?_;rintro r1 w1 ⟨rfl,hw⟩;subst hw)|(go_at_call 73;refine HT.out.mono ?_;rintro r2 w2 ⟨rfl,hb2⟩;have HB2:=show Hid (Below w1.heap.size w1 w2) from hb2;clear hb2))
   refine QV (v:=.tuple #[.slice none 0 0,.int .i64 130]) (by simp [results,Tryz.f31,go_sem]) rfl ?_;exact ⟨_,rfl,HX.out _ HB2.out⟩
theorem xe {S:Nat->Prop}{st:wD}(h:Sq S W g st) (hz:Ph st) :
  Ra 32 #[bV g] W fun rr w'=>∃v,rr=.returned (.tuple #[v,.int .i64 (xx st).1])/\Aq S g W w' v (xx st).2.1 (xx st).2.2:=by
 cases st with
 |done=>
  have HR:Hid (Ra 72 #[bV g] W fun r w'=>r=.returned (.int .i64 4)/\w'=W):=fG h.1.cells.1;have HX:Hid (Aq S g W W (.slice none 0 0) [] .done):=tQ (st:=.done) h (hH _ _);clear h
  go_enter Tryz.func32,Tryz.ntmps32
  go_wp2_with (go_at_call 72;refine HR.out.mono ?_;rintro r1 w1 ⟨rfl,hw⟩;subst hw)
  refine QV (v:=.tuple #[.slice none 0 0,.int .i64 4]) (by simp [results,Tryz.f32,go_sem]) rfl ?_;exact ⟨_,rfl,HX.out⟩
 |live s=>
  have hs:SS S W g s:=h;obtain ⟨vn,vw,hv,v1,v2⟩:=hs.ex;obtain ⟨c0,c1,c2,c3,c4,c5,c6,c7⟩:=hv.sb.cells;have HR:Hid (Ra 72 #[bV g] W fun r w'=>r=.returned (.int .i64 0)/\w'=W):=fG c0;obtain ⟨pn,cn,en,_⟩:=aJ hv.rn
  by_cases hn:s.ns=[]
  ·have hpp:xx (.live s)=(0,s.endl.ws,.done):=by show (match ic s with|none=>_|some l=>_)=_;unfold ic;rw [IO hn]
   rw [hpp];have c1':W.cell? ⟨g,1,none⟩=some (.slice pn 0 cn):=by rw [c1,en,hn];rfl
   have HE:Hid (Ra 78 #[bV g] W fun rr w'=>rr=.returned (.tuple #[])/\∃p n c,w'.cell? ⟨g,2,none⟩=some (.slice p n c)/\(∃vn1 vw1,SB w' g false vn1 vw1 s.endl.mr.isSome (s.endl.mr.getD 0:Nat) s.endl.wr s.endl.en s.endl.pt)/\∀w5,Kp (fun k=>k=g) w' w5->SB w5 g true (.slice none 0 0) (.slice none 0 0) false 0 false false false->Aq S g W w5 (.slice p n c) s.endl.ws .done):=by
    refine (mz hs (by have:=hz.1.1;omega)).mono ?_;rintro rr w' ⟨rfl,⟨S1,a1,a2⟩,hk,_⟩;obtain ⟨vn1,vw1,hv1,x1,x2⟩:=a1.ex;obtain ⟨p,c,e1,_⟩:=bB hv1.rd;subst e1;refine ⟨rfl,p,_,c,hv1.sb.cells.2.2.1,⟨_,_,hv1.sb⟩,fun w5 hk5 hsb=>?_⟩;have r5:Rd w5 (.slice p s.endl.ws.length c) s.endl.ws:=hk5.row hv1.rd (fun k e1 e2=>aM hv1.rd hv1.sb (by decide) (by rw [e1,e2]));have hgne:(Value.slice p s.endl.ws.length c).ownBlock≠some g:=aM hv1.rd hv1.sb (by decide);refine ⟨⟨fun k=>k=g,⟨hsb,rfl,fun k e=>by rw [e];exact hsb.lt⟩,fun k e=>.inl (by rw [e];exact hs.sg),fun k e=>⟨a2 k (x2 k e),fun e2=>hgne (by rw [<-e2];exact e)⟩⟩,r5,hk.step hk5 (fun k _ e=>by rw [e];exact hs.sg)⟩
   have q1:¬(0:Int)<0:=by omega
   clear h hs hv v1 v2 c0 c1 c2 c3 c4 c5 c6 c7 en hn hpp hz
   go_enter Tryz.func32,Tryz.ntmps32
   go_upto_region 8 with (first|(go_at_call 72;refine HR.out.mono ?_;rintro r1 w1 ⟨rfl,hw⟩;subst hw)|(go_at_call 78;refine HE.out.mono ?_;rintro r2 w2 ⟨rfl,p2,n2,c2,y1,⟨vn2,vw2,y2⟩,y3⟩;have HY:=ai y3;clear y3))
   obtain ⟨d0,d1,d2,d3,d4,d5,d6,d7⟩:=y2.cells;have f0:=y2.frozen 0;have f1:=y2.frozen 1;have f2:=y2.frozen 2;have f3:=y2.frozen 3;have f4:=y2.frozen 4;have f5:=y2.frozen 5;have f6:=y2.frozen 6;have f7:=y2.frozen 7;have HZ:=show Hid _ from HY.out ((((((((w2.setCell ⟨g,0,none⟩ (.bool true)).setCell ⟨g,1,none⟩ (.slice none 0 0)).setCell ⟨g,2,none⟩ (.slice none 0 0)).setCell ⟨g,3,none⟩ (.bool false)).setCell ⟨g,4,none⟩ (.int .i64 0)).setCell ⟨g,5,none⟩ (.bool false)).setCell ⟨g,6,none⟩ (.bool false)).setCell ⟨g,7,none⟩ (.bool false)) ((((((((Kp.set _ _ _ _).trans (Kp.set _ _ _ _)).trans (Kp.set _ _ _ _)).trans (Kp.set _ _ _ _)).trans (Kp.set _ _ _ _)).trans (Kp.set _ _ _ _)).trans (Kp.set _ _ _ _)).trans (Kp.set _ _ _ _)) (aj (aj (aj (aj (aj (aj (aj (aj y2 0 _) 1 _) 2 _) 3 _) 4 _) 5 _) 6 _) 7 _)
   clear HY y2 HE HR
   go_wp2_with fail
   refine QV (v:=.tuple #[.slice p2 n2 c2,.int .i64 0]) (by simp [results,Tryz.f32,go_sem]) rfl ?_;exact ⟨_,rfl,HZ.out⟩
  ·have hpp:xx (.live s)=(130,[],.live s):=by show (match ic s with|none=>_|some l=>_)=_;unfold ic;rw [Eq hn]
   rw [hpp];have c1':W.cell? ⟨g,1,none⟩=some (.slice pn s.ns.length cn):=by rw [c1,en]
   have q1:(0:Int)<(s.ns.length:Int):=by have:s.ns.length≠0:=fun h0=>hn (QZ h0);omega
   have HX:Hid (Aq S g W W (.slice none 0 0) [] (.live s)):=tQ (st:=.live s) h (hH _ _);clear h hs hv v1 v2 c0 c1 c2 c3 c4 c5 c6 c7 en hn hpp hz
   go_enter Tryz.func32,Tryz.ntmps32
   go_wp2_with (go_at_call 72;refine HR.out.mono ?_;rintro r1 w1 ⟨rfl,hw⟩;subst hw)
   refine QV (v:=.tuple #[.slice none 0 0,.int .i64 130]) (by simp [results,Tryz.f32,go_sem]) rfl ?_;exact ⟨_,rfl,HX.out⟩
def cI (l:List Nd):Nat:=(l.map (·.b)).sum
theorem bk (n:Nd) (l:List Nd):cI (n :: l)=n.b+cI l:=by simp [cI]
def fw (s:Sy):Nat:=s.ws.length+cI s.ns
theorem Mg (s:Sy) (p:Pz):fw (s.aw p)<=fw s+2/\(s.aw p).ns.length=s.ns.length/\(s.aw p).mr=s.mr/\s.ws.length<=(s.aw p).ws.length:=by
 refine ⟨?_,nT p s.ns,rfl,by rw [ru,Or];omega⟩;have h1:=gz p s.ns
 have hn:cI (ia p s.ns)<=cI s.ns+1:=by
  cases hc:s.ns with
  |nil=>simp [ia,cI]
  |cons n r=>
   have hp:p.n<=1:=by cases p <;> simp [Pz.n]
   simp only [ia];rw [bk]
   split
   ·rw [bk];show n.b-1+cI r<=_;omega
   ·rw [bk];show n.b+p.n+cI r<=_;omega
 show (s.ws++jB p s.ns).length+cI (ia p s.ns)<=_
 rw [Or];unfold fw;omega
theorem fI (s:Sy) (l:List Pz):fw (s.aws l)<=fw s+2*l.length/\(s.aws l).ns.length=s.ns.length/\(s.aws l).mr=s.mr/\s.ws.length<=(s.aws l).ws.length:=by
 induction l generalizing s with
 |nil=>exact ⟨by simp [Sy.aws],rfl,rfl,gt _⟩
 |cons p l ih=>
  obtain ⟨a1,a2,a3,a4⟩:=ih (s.aw p);obtain ⟨b1,b2,b3,b4⟩:=Mg s p;rw [bZ];exact ⟨by simp only [List.length_cons];omega,a2.trans b2,a3.trans b3,by omega⟩
def Mo (s:Sy):Prop:=∀m,s.mr=some m->m<=s.ws.length
theorem Mo.aws {s:Sy}(h:Mo s) (l:List Pz):Mo (s.aws l):=fun m hm=>by
 obtain ⟨_,_,a3,a4⟩:=fI s l;have:=h m (by rw [<-a3];exact hm);omega
theorem gZ (s:Sy):fw s.exprIn<=fw s+4/\s.exprIn.ns.length=s.ns.length/\s.exprIn.mr=s.mr/\s.ws.length<=s.exprIn.ws.length:=by
 unfold Sy.exprIn
 split
 ·exact ⟨by omega,rfl,rfl,gt _⟩
 ·rename_i n r e
  have hb:cI s.ns=n.b+cI r:=by rw [e,bk]
  have key:∀l:List Pz,(∀p∈l,jB p s.ns=[p.d])->True:=fun _ _=>trivial
  by_cases h19:n.k=19
  ·obtain ⟨a1,a2,a3,a4⟩:=fI s [.S,.I 3];simp only [IO h19];refine ⟨?_,by show ((_:Nd) :: r).length=_;rw [e];rfl,a3,a4⟩
   have hw:(s.aws [.S,.I 3]).ws.length<=s.ws.length+2:=by
    show ((s.ws++jB .S s.ns)++jB (.I 3) (ia .S s.ns)).length<=_
    have:=gz .S s.ns;have:=gz (.I 3) (ia .S s.ns);rw [Or,Or];omega
   show (s.aws [.S,.I 3]).ws.length+cI (⟨n.k,n.b+1,true⟩ :: r)<=_
   rw [bk];unfold fw;rw [hb];show _+(n.b+1+cI r)<=_;omega
  ·by_cases h31:n.k=31/\n.s=false
   ·obtain ⟨a1,a2,a3,a4⟩:=fI s [.B0];simp only [Eq h19,IO h31];refine ⟨?_,by show ((_:Nd) :: r).length=_;rw [e];rfl,a3,a4⟩
    have hw:(s.aws [.B0]).ws.length<=s.ws.length+1:=by
     show (s.ws++jB .B0 s.ns).length<=_
     have:=gz .B0 s.ns;rw [Or];omega
    show (s.aws [.B0]).ws.length+cI (⟨n.k,n.b,true⟩ :: r)<=_
    rw [bk];unfold fw;rw [hb];show _+(n.b+cI r)<=_;omega
   ·simp only [Eq h19,Eq h31];refine ⟨?_,by show ((_:Nd) :: r).length=_;rw [e];rfl,by first|rfl|trivial,by first|exact gt _|trivial⟩;show s.ws.length+cI (⟨n.k,n.b,true⟩ :: r)<=_;rw [bk];unfold fw;rw [hb];show _+(n.b+cI r)<=_;omega
theorem Mo.exprIn (h:Mo s):Mo s.exprIn:=fun m hm=>by
 obtain ⟨_,_,a3,a4⟩:=gZ s;have:=h m (by rw [<-a3];exact hm);omega
theorem Mo.mark (h:Mo s) (k:Int):Mo (s.mark k):=by
 unfold Sy.mark
 split
 ·intro m hm;cases hm;exact gt _
 ·exact h
theorem qQ (s:Sy) (k:Int):fw (s.opens k)<=fw s+12/\(s.opens k).ns.length<=s.ns.length+1:=by
 obtain ⟨s1,hs1⟩:∃s1,(if k=21 then s.exprIn else s)=s1:=⟨_,rfl⟩
 have h1:fw s1<=fw s+4/\s1.ns.length=s.ns.length:=by
  rw [<-hs1];split
  ·exact ⟨(gZ s).1,(gZ s).2.1⟩
  ·exact ⟨by omega,rfl⟩
 have h2:fw (s1.mark k)=fw s1/\(s1.mark k).ns=s1.ns:=by unfold Sy.mark;split <;> exact ⟨rfl,rfl⟩
 have hl:(qm k).length<=1:=by unfold qm;split;simp;split <;> simp
 obtain ⟨a1,a2,_,_⟩:=fI { (s1.mark k) with ns:=⟨k,0,false⟩ :: (s1.mark k).ns } (qm k)
 have h3:fw ({ (s1.mark k) with ns:=⟨k,0,false⟩ :: (s1.mark k).ns }:Sy)=fw (s1.mark k):=by
  show (s1.mark k).ws.length+cI (⟨k,0,false⟩ :: (s1.mark k).ns)=_
  rw [bk];show _+(0+_)=_;unfold fw;omega
 have e:s.opens k=Sy.aws { (s1.mark k) with ns:=⟨k,0,false⟩ :: (s1.mark k).ns } (qm k):=by unfold Sy.opens;simp only;rw [hs1]
 rw [e];refine ⟨by rw [h3] at a1;omega,?_⟩;rw [a2];show ((⟨k,0,false⟩:Nd) :: (s1.mark k).ns).length<=_;rw [List.length_cons,h2.2,h1.2];omega
theorem Mo.opens (h:Mo s) (k:Int):Mo (s.opens k):=by
 unfold Sy.opens;simp only;refine Mo.aws ?_ _;have:Mo ((if k=21 then s.exprIn else s).mark k):=Mo.mark (by split;exact h.exprIn;exact h) k;exact this
theorem oT (s:Sy):fw s.leaves<=fw s+12/\s.leaves.ns.length<=s.ns.length:=by
 unfold Sy.leaves
 split
 ·exact ⟨by omega,gt _⟩
 ·rename_i n r e
  refine ⟨?_,by rw [e];simp⟩;show (s.ws++List.replicate n.b dX++(if n.k=1 then [dH] else [])).length+cI r<=_;unfold fw;rw [e,bk,Or,Or,SR]
  split <;> simp <;> omega
theorem Mo.leaves (h:Mo s):Mo s.leaves:=by
 unfold Sy.leaves
 split
 ·exact h
 ·intro m hm;have:=h m hm;show m<=(s.ws++List.replicate _ dX++_).length;rw [Or,Or];omega
theorem Bl (s:Sy) (a:Fx) (f:Int):fw (s.ready a f)<=fw s+7/\(s.ready a f).ns.length=s.ns.length:=by
 obtain ⟨a1,a2,_,_⟩:=fI s a.pz;have hl:=xH a
 have e1:fw ((s.aws a.pz).emp f)<=fw (s.aws a.pz)+1:=by
  unfold Sy.emp
  split
  ·omega
  ·split
   ·omega
   ·rename_i m _ _
    show ((s.aws a.pz).ws.take m++dE :: (s.aws a.pz).ws.drop m).length+cI (s.aws a.pz).ns<=_
    unfold fw;simp only [Or,Ri,List.length_cons,Rf];omega
 have e2:∀u:Sy,fw u.endl<=fw u+1:=fun u=>by
  unfold Sy.endl
  split
  ·show (dH :: u.ws).length+cI u.ns<=_;unfold fw;simp;omega
  ·omega
 have e3:∀u:Sy,fw u.part<=fw u+1:=fun u=>by
  unfold Sy.part
  split
  ·show (u.ws++[dS]).length+cI u.ns<=_;unfold fw;simp;omega
  ·omega
 unfold Sy.ready;refine ⟨?_,by rw [np,kM,sY,a2]⟩;have:=e3 ((s.aws a.pz).emp f).endl;have:=e2 ((s.aws a.pz).emp f);omega
theorem uP (s:Sy) (t:Tv):(s.leaf t).2.length+fw (s.leaf t).1<=fw s+12/\(s.leaf t).1.ns.length=s.ns.length:=by
 unfold Sy.leaf
 split
 ·exact ⟨by simp,rfl⟩
 ·rename_i n r e
  obtain ⟨a1,a2⟩:=Bl s (aG n t).a t.f;obtain ⟨b1,b2,_,_⟩:=fI ⟨(s.ready (aG n t).a t.f).ns,[],none,true,false,false⟩ (aG n t).b.pz;have hl:=xH (aG n t).b;refine ⟨?_,?_⟩
  ·show ((s.ready (aG n t).a t.f).ws++[dT t.t]).length+fw (Sy.aws ⟨(s.ready (aG n t).a t.f).ns,[],none,true,false,false⟩ (aG n t).b.pz)<=_
   have:fw ⟨(s.ready (aG n t).a t.f).ns,[],none,true,false,false⟩=cI (s.ready (aG n t).a t.f).ns:=by unfold fw;simp
   rw [this] at b1;unfold fw at a1;rw [Or];simp only [List.length_cons,List.length_nil];unfold fw at b1 ⊢;omega
  ·show (Sy.aws ⟨(s.ready (aG n t).a t.f).ns,[],none,true,false,false⟩ (aG n t).b.pz).ns.length=_
   rw [b2];exact a2
theorem Mo.leaf (h:Mo s) (t:Tv):Mo (s.leaf t).1:=by
 unfold Sy.leaf
 split
 ·exact h
 ·show Mo (Sy.aws ⟨_,[],none,true,false,false⟩ _)
  exact Mo.aws (fun m hm=>by cases hm) _
theorem uO (s:Sy) (t:Tv):(s.note t).2.length+fw (s.note t).1<=fw s+12/\(s.note t).1.ns.length=s.ns.length:=by
 have hsp:(s.ws.takeWhile be).length+(s.ws.dropWhile be).length=s.ws.length:=by
  rw [<-Or,S8]
 unfold Sy.note;simp only
 split
 ·refine ⟨?_,rfl⟩;show (s.ws.takeWhile be++[dS,dT t.t]).length+((s.ws.dropWhile be).length+cI s.ns)<=_;unfold fw;simp;omega
 ·refine ⟨?_,rfl⟩;show (s.ws.takeWhile be++dH :: ((if _ then [dE] else [])++[dT t.t])).length+((s.ws.dropWhile be).length+cI s.ns)<=_;unfold fw
  split <;> simp <;> omega
theorem Mo.note {s:Sy}(t:Tv):Mo (s.note t).1:=by
 unfold Sy.note;simp only
 split <;> (intro m hm;cases hm)
theorem IG {e:Ev}(h:dy s e=some (s',l)):l.length+fw s'<=fw s+12/\s'.ns.length<=s.ns.length+1/\(Mo s->Mo s'):=by
 unfold dy at h
 split at h
 ·have h':=Ry h;obtain ⟨e1,e2⟩:(s.step e).1=s'/\(s.step e).2=l:=⟨by rw [h'],by rw [h']⟩;rw [<-e1,<-e2];unfold Sy.step
  split
  ·exact ⟨by have:=(qQ s e.n).1;simpa using this,(qQ s e.n).2,fun h=>h.opens _⟩
  ·split
   ·exact ⟨by have:=(oT s).1;simpa using this,by have:=(oT s).2;show s.leaves.ns.length<=_;omega,fun h=>h.leaves⟩
   ·split
    ·exact ⟨(uP s e.d).1,by rw [(uP s e.d).2];omega,fun h=>h.leaf _⟩
    ·exact ⟨(uO s e.d).1,by rw [(uO s e.d).2];omega,fun _=>Mo.note _⟩
 ·cases h
theorem F4 {l:List Nd}{x:Nd}(h:x∈l):x.b<=cI l:=by
 induction l with
 |nil=>cases h
 |cons n r ih=>
  rw [bk]
  rcases Rg.1 h with rfl|h
  ·omega
  ·have:=ih h;omega
theorem LO {s:Sy}{j:Nat}(h1:fw s<=12*j) (h2:s.ns.length<=j) (h3:Mo s) (hj:j<=30000000):Ph (.live s):=by
 unfold fw at h1;exact ⟨⟨by omega,by omega,fun x hx=>by have:=F4 hx;omega⟩,h3⟩
end Go.Proofs.YtjiepkenkcgkhaaGreatDoor
