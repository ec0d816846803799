import Derived.Test.YtcjiapphbpiffaaGreatDoorM34
set_option linter.unusedVariables false
set_option linter.unusedSimpArgs false
set_option maxHeartbeats 2000000
namespace Go.Proofs.YtcjiapphbpiffaaGreatDoor
open Go.RowKit
open Lw (Dc bE rt cG dD fu iC bZ aX cy)
variable {s s':Sy}{W W':World}{g:Nat}{l:List Dc}
inductive xE|live (s:Sy)|done
def Sq (S:Nat->Prop) (W:World) (g:Nat):xE->Prop
 |.live s=>SS S W g s
 |.done=>SB W g true (.slice none 0 0) (.slice none 0 0) false 0 false false false/\S g/\∀k,S k->k<W.heap.size
theorem Sq.below {S:Nat->Prop}{st:xE}(h:Sq S W g st) (C:Below W.heap.size W W'):Sq S W' g st:=by
 cases st with
 |live s=>exact SS.below h C
 |done=>exact ⟨h.1.below C,h.2.1,fun k F=>Tn (h.2.2 k F) C.size⟩
theorem Sq.kp {S T:Nat->Prop}{W W':World}{g:Nat}{st:xE}(h:Sq S W g st) (C:Kp T W W') (F:∀k,S k->¬T k):Sq S W' g st:=by
 cases st with
 |live s=>exact SS.kp h C F
 |done=>exact ⟨h.1.kp C (F _ h.2.1),h.2.1,fun k G=>Tn (h.2.2 k G) C.size⟩
theorem Sq.lt {S:Nat->Prop}{st:xE}(h:Sq S W g st):∀k,S k->k<W.heap.size:=by cases st with|live s=>exact SS.lt h|done=>exact h.2.2
def Aq (S:Nat->Prop) (g:Nat) (W W':World) (v:Value) (l:List Dc) (st:xE):Prop:=
 (∃S',Sq S' W' g st/\(∀k,S' k->S k\/W.heap.size<=k)/\∀k,v.ownBlock=some k->(S k\/W.heap.size<=k)/\¬S' k)/\Rd W' v l/\Kp S W W'
theorem uK {S:Nat->Prop}{g:Nat}{W W':World}{st:xE}(h:Sq S W g st) (C:Below W.heap.size W W'):Aq S g W W' (.slice none 0 0) [] st:=
 ⟨⟨S,h.below C,fun _ h=>.inl h,fun k e=>by cases e⟩,lS _,Kp.of_below C⟩
theorem MP {S:Nat->Prop}{g:Nat}{W V W':World}{s s':Sy}(C:Below W.heap.size W V) (m:Mw S g V W' s'):Aq S g W W' (.slice none 0 0) [] (.live s'):=by
 obtain ⟨⟨F,G,H⟩,I⟩:=m;exact ⟨⟨F,G,fun k J=>(H k J).imp id (fun e=>SY C.size e),fun k e=>by cases e⟩,lS _,(Kp.of_below C).step I (fun _ _ h=>h)⟩
theorem MQ {S:Nat->Prop}{V:World}{v:Value}(C:Below W.heap.size W V) (m:An S g V W' v l s'):Aq S g W W' v l (.live s'):=by
 obtain ⟨⟨G,H,I,F⟩,M,J⟩:=m;exact ⟨⟨G,H,fun k O=>(I k O).imp id (fun e=>SY C.size e),fun k e=>⟨(F k e).1.imp id (fun e=>SY C.size e),(F k e).2⟩⟩,M,(Kp.of_below C).step J (fun _ _ h=>h)⟩
def Ct (e:Ev):xE->Int × List Dc × xE
 |.done=>(4,[],.done)
 |.live s=>match dO s e with
  |none=>(130,[],.live s)
  |some (s',l)=>(0,l,.live s')
def yB:xE->Int × List Dc × xE
 |.done=>(4,[],.done)
 |.live s=>match iy s with
  |none=>(130,[],.live s)
  |some l=>(0,l,.done)
def Q1:xE->Prop
 |.done=>True
 |.live s=>Bz 400000000 s/\∀m,s.mr=some m->m<=s.ws.length
theorem yF (W:World):Ta 37 #[] W fun F w'=>F=.returned (cd W.heap.size)/\Sq (fun k=>k=W.heap.size) w' W.heap.size (.live sx)/\Below W.heap.size W w':=by
 have C:Hid (Sq (fun k=>k=W.heap.size) (W.alloc (.cells #[.bool false,.slice none 0 0,.slice none 0 0,.bool false,.int .i64 0,.bool false,.bool false,.bool false] 156)) W.heap.size (.live sx)/\Below W.heap.size W (W.alloc (.cells #[.bool false,.slice none 0 0,.slice none 0 0,.bool false,.int .i64 0,.bool false,.bool false,.bool false] 156))):=by
  refine ⟨show SS _ _ _ _ from ⟨⟨.slice none 0 0,.slice none 0 0,⟨aq W _,TU _ 0 tN 3,lS _⟩,(fun k e=>by cases e),(fun k e=>by cases e)⟩,rfl,(fun k (e:k=W.heap.size)=>by rw [e];show _<(W.heap.push _).size;simp)⟩,(hH _ _).alloc (gt _) _⟩
 go_enter Tryz.func37,Tryz.ntmps37
 go_wp2_with fail
 go_ret
 exact ⟨rfl,C.out⟩
theorem EA {S:Nat->Prop}{st:xE}(h:Sq S W g st) (hz:Q1 st) (e:Ev) (ht:e.d.t.size<=9223372036854775807) :
  Ta 39 #[cd g,.agg #[.int .u8 e.k,.int .u8 e.n,.int .u8 e.d.k,.string e.d.t,.int .i64 e.d.a,.int .i64 e.d.l,.int .i64 e.d.c,.int .i64 e.d.f]] W fun M w'=>∃v,M=.returned (.tuple #[v,.int .i64 (Ct e st).1])/\Aq S g W w' v (Ct e st).2.1 (Ct e st).2.2:=by
 obtain ⟨V,hV⟩:∃V,W.alloc (.cells #[.int .u8 e.k,.int .u8 e.n,.int .u8 e.d.k,.string e.d.t,.int .i64 e.d.a,.int .i64 e.d.l,.int .i64 e.d.c,.int .i64 e.d.f] 110)=V:=⟨_,rfl⟩;have Y:Below W.heap.size W V:=by rw [<-hV];exact (hH _ _).alloc (gt _) _
 have hE:Eb V W.heap.size e:=by rw [<-hV];exact aq _ _
 have HV:Hid (W.alloc (.cells #[.int .u8 e.k,.int .u8 e.n,.int .u8 e.d.k,.string e.d.t,.int .i64 e.d.a,.int .i64 e.d.l,.int .i64 e.d.c,.int .i64 e.d.f] 110)=V):=hV;have HB:=show Hid (Below W.heap.size W V) from Y
 clear hV;cases st with
 |done=>
  have c0:V.cell? ⟨g,0,none⟩=some (.bool true):=(h.below Y).1.cells.1;have HR:Hid (Ta 78 #[cd g] V fun r w'=>r=.returned (.int .i64 4)/\w'=V):=fR c0;have HX:Hid (Aq S g W V (.slice none 0 0) [] .done):=uK h Y;clear h Y hE c0
  go_enter Wv,V5
  go_upto_region 1 with fail
  rw [HV.out]
  go_wp2_with (go_at_call 78;refine HR.out.mono ?_;rintro r1 O ⟨rfl,rfl⟩)
  refine Ti (v:=.tuple #[.slice none 0 0,.int .i64 4]) (by simp [results,Tryz.f39,go_sem]) rfl ?_;exact ⟨_,rfl,HX.out⟩
 |live s=>
  have hs:SS S V g s:=SS.below h Y;obtain ⟨U,Z⟩:=hz;obtain ⟨vn0,vw0,hv0,_⟩:=hs.ex;have HR:Hid (Ta 78 #[cd g] V fun r w'=>r=.returned (.int .i64 0)/\w'=V):=fR hv0.sb.cells.1;have HT:Hid (Ta 79 #[cd g,.agg #[.int .u8 e.k,.int .u8 e.n,.int .u8 e.d.k,.string e.d.t,.int .i64 e.d.a,.int .i64 e.d.l,.int .i64 e.d.c,.int .i64 e.d.f]] V fun M w'=>M=.returned (.bool (s.may e))/\Tb V w'):=BR hs (by have:=U.2.1;omega) e ht;obtain ⟨m0,m1,m2,m3,m4,m5,m6,m7⟩:=hE.cells
  by_cases C:s.may e=true
  ·have I:Ct e (.live s)=(0,(s.step e).2,.live (s.step e).1):=by show (match dO s e with|none=>_|some (s',l)=>_)=_;unfold dO;rw [IO C]
   rw [I];rw [C] at HT;have F:=show Hid (∀X,Below V.heap.size V X->Eb X W.heap.size e/\SS S X g s/\Below W.heap.size W X) from fun X H=>⟨ag hE H,hs.below H,Y.trans (H.mono Y.size)⟩
   have aa:=show Hid (Bz 400000000 s/\∀m,s.mr=some m->m<=s.ws.length) from ⟨U,Z⟩
   by_cases J:e.k=1
   ·have HO:Hid (∀X,Tb V X->Ta 80 #[cd g,.int .u8 e.n] X fun M w'=>M=.returned (.tuple #[])/\Aq S g W w' (.slice none 0 0) (s.step e).2 (.live (s.step e).1)):=fun X H=>by
     refine (Fz (F.out X H).2.1 (aa.out.1.mono (by omega)) e.n).mono ?_;rintro M w' ⟨rfl,m⟩;have Q:s.step e=(s.opens e.n,[]):=by unfold Sy.step;rw [IO J]
     rw [Q];exact ⟨rfl,MP (s:=s) (F.out X H).2.2 m⟩
    have q1:(e.k == 1)=true:=by simpa using J
    clear h Y hE hs hv0 U Z I C J
    go_enter Wv,V5
    go_upto_region 1 with fail
    rw [HV.out]
    go_wp2_with (first|(go_at_call 78;refine HR.out.mono ?_;rintro r1 O ⟨rfl,hw⟩;subst hw)|(go_at_call 79;refine HT.out.mono ?_;rintro r2 w2 ⟨rfl,hb2⟩;have G:=show Hid (Below O.heap.size O w2) from hb2;obtain ⟨n0,n1,n2,n3,n4,n5,n6,n7⟩:=(F.out _ hb2).1.cells;clear hb2)|(go_at_call 80;refine (HO.out _ G.out).mono ?_;rintro r3 w3 ⟨rfl,hA⟩;have HX:=ai hA;clear hA))
    refine Ti (v:=.tuple #[.slice none 0 0,.int .i64 0]) (by simp [results,Tryz.f39,go_sem]) rfl ?_;exact ⟨_,rfl,HX.out⟩
   ·by_cases a2:e.k=3
    ·obtain ⟨n,r,ab⟩:∃n r,s.ns=n :: r:=by
      unfold Sy.may at C;rw [Eq J,IO a2] at C;cases hq:s.ns with
      |nil=>rw [hq] at C;cases C
      |cons n r=>exact ⟨n,r,rfl⟩
     have HO:Hid (∀X,Tb V X->Ta 81 #[cd g] X fun M w'=>M=.returned (.tuple #[])/\Aq S g W w' (.slice none 0 0) (s.step e).2 (.live (s.step e).1)):=fun X H=>by
      refine (CN (F.out X H).2.1 aa.out.1 ab).mono ?_;rintro M w' ⟨rfl,m⟩;have Q:s.step e=(s.leaves,[]):=by unfold Sy.step;rw [Eq J,IO a2]
      rw [Q];exact ⟨rfl,MP (s:=s) (F.out X H).2.2 m⟩
     have q1:(e.k == 1)=false:=by simpa using J
     have q2:(e.k == 3)=true:=by simpa using a2
     clear h Y hE hs hv0 U Z I C J a2 ab
     go_enter Wv,V5
     go_upto_region 1 with fail
     rw [HV.out]
     go_wp2_with (first|(go_at_call 78;refine HR.out.mono ?_;rintro r1 O ⟨rfl,hw⟩;subst hw)|(go_at_call 79;refine HT.out.mono ?_;rintro r2 w2 ⟨rfl,hb2⟩;have G:=show Hid (Below O.heap.size O w2) from hb2;obtain ⟨n0,n1,n2,n3,n4,n5,n6,n7⟩:=(F.out _ hb2).1.cells;clear hb2)|(go_at_call 81;refine (HO.out _ G.out).mono ?_;rintro r3 w3 ⟨rfl,hA⟩;have HX:=ai hA;clear hA))
     refine Ti (v:=.tuple #[.slice none 0 0,.int .i64 0]) (by simp [results,Tryz.f39,go_sem]) rfl ?_;exact ⟨_,rfl,HX.out⟩
    ·by_cases a3:e.k=2
     ·obtain ⟨n,r,ab⟩:∃n r,s.ns=n :: r:=by
       unfold Sy.may at C;rw [Eq J,Eq a2,IO a3] at C;cases hq:s.ns with
       |nil=>rw [hq] at C;cases C
       |cons n r=>exact ⟨n,r,rfl⟩
      have HO:Hid (∀X,Tb V X->Ta 82 #[cd g,.agg #[.int .u8 e.d.k,.string e.d.t,.int .i64 e.d.a,.int .i64 e.d.l,.int .i64 e.d.c,.int .i64 e.d.f]] X fun M w'=>∃v,M=.returned v/\Aq S g W w' v (s.step e).2 (.live (s.step e).1)):=fun X H=>by
       refine (F1 (F.out X H).2.1 (aa.out.1.mono (by omega)) aa.out.2 ab e.d).mono ?_;rintro M w' ⟨v,rfl,m⟩;have Q:s.step e=s.leaf e.d:=by unfold Sy.step;rw [Eq J,Eq a2,IO a3]
       rw [Q];exact ⟨v,rfl,MQ (F.out X H).2.2 m⟩
      have q1:(e.k == 1)=false:=by simpa using J
      have q2:(e.k == 3)=false:=by simpa using a2
      have q3:(e.k == 2)=true:=by simpa using a3
      clear h Y hE hs hv0 U Z I C J a2 a3 ab
      go_enter Wv,V5
      go_upto_region 1 with fail
      rw [HV.out]
      go_wp2_with (first|(go_at_call 78;refine HR.out.mono ?_;rintro r1 O ⟨rfl,hw⟩;subst hw)|(go_at_call 79;refine HT.out.mono ?_;rintro r2 w2 ⟨rfl,hb2⟩;have G:=show Hid (Below O.heap.size O w2) from hb2;obtain ⟨n0,n1,n2,n3,n4,n5,n6,n7⟩:=(F.out _ hb2).1.cells;clear hb2)|(go_at_call 82;refine (HO.out _ G.out).mono ?_;rintro r3 w3 ⟨v3,rfl,hA⟩;have HX:=ai hA;clear hA))
      refine Ti (v:=.tuple #[v3,.int .i64 0]) (by simp [results,Tryz.f39,go_sem]) rfl ?_;exact ⟨_,rfl,HX.out⟩
     ·have a4:e.k=4:=by
       apply TF
       intro a4;unfold Sy.may at C;rw [Eq J,Eq a2,Eq a3,Eq a4] at C;cases C
      have HO:Hid (∀X,Tb V X->Ta 83 #[cd g,.agg #[.int .u8 e.d.k,.string e.d.t,.int .i64 e.d.a,.int .i64 e.d.l,.int .i64 e.d.c,.int .i64 e.d.f]] X fun M w'=>∃v,M=.returned v/\Aq S g W w' v (s.step e).2 (.live (s.step e).1)):=fun X H=>by
       refine (BY (F.out X H).2.1 (by have:=aa.out.1.1;omega) e.d).mono ?_;rintro M w' ⟨v,rfl,m⟩;have Q:s.step e=s.note e.d:=by unfold Sy.step;rw [Eq J,Eq a2,Eq a3]
       rw [Q];exact ⟨v,rfl,MQ (F.out X H).2.2 m⟩
      have q1:(e.k == 1)=false:=by simpa using J
      have q2:(e.k == 3)=false:=by simpa using a2
      have q3:(e.k == 2)=false:=by simpa using a3
      have q4:(e.k == 4)=true:=by simpa using a4
      clear h Y hE hs hv0 U Z I C J a2 a3 a4
      go_enter Wv,V5
      go_upto_region 1 with fail
      rw [HV.out]
      go_wp2_with (first|(go_at_call 78;refine HR.out.mono ?_;rintro r1 O ⟨rfl,hw⟩;subst hw)|(go_at_call 79;refine HT.out.mono ?_;rintro r2 w2 ⟨rfl,hb2⟩;have G:=show Hid (Below O.heap.size O w2) from hb2;obtain ⟨n0,n1,n2,n3,n4,n5,n6,n7⟩:=(F.out _ hb2).1.cells;clear hb2)|(go_at_call 83;refine (HO.out _ G.out).mono ?_;rintro r3 w3 ⟨v3,rfl,hA⟩;have HX:=ai hA;clear hA))
      refine Ti (v:=.tuple #[v3,.int .i64 0]) (by simp [results,Tryz.f39,go_sem]) rfl ?_;exact ⟨_,rfl,HX.out⟩
  ·have ac:s.may e=false:=by simpa using C
   have I:Ct e (.live s)=(130,[],.live s):=by show (match dO s e with|none=>_|some (s',l)=>_)=_;unfold dO;rw [Eq C]
   rw [I];rw [ac] at HT;have HX:Hid (∀X,Tb V X->Aq S g W X (.slice none 0 0) [] (.live s)):=fun X H=>uK (st:=.live s) h (Y.trans (H.mono Y.size))
   clear h Y hE hs hv0 U Z I C ac
   go_enter Wv,V5
   go_upto_region 1 with fail
   rw [HV.out]
   go_wp2_with (first|(go_at_call 78;refine HR.out.mono ?_;rintro r1 O ⟨rfl,hw⟩;subst hw)|(go_at_call 79;refine HT.out.mono ?_;rintro r2 w2 ⟨rfl,hb2⟩;have G:=show Hid (Below O.heap.size O w2) from hb2;clear hb2))
   refine Ti (v:=.tuple #[.slice none 0 0,.int .i64 130]) (by simp [results,Tryz.f39,go_sem]) rfl ?_;exact ⟨_,rfl,HX.out _ G.out⟩
theorem yf {S:Nat->Prop}{st:xE}(h:Sq S W g st) (hz:Q1 st) :
  Ta 40 #[cd g] W fun rr w'=>∃v,rr=.returned (.tuple #[v,.int .i64 (yB st).1])/\Aq S g W w' v (yB st).2.1 (yB st).2.2:=by
 cases st with
 |done=>
  have H:Hid (Ta 78 #[cd g] W fun r w'=>r=.returned (.int .i64 4)/\w'=W):=fR h.1.cells.1;have HX:Hid (Aq S g W W (.slice none 0 0) [] .done):=uK (st:=.done) h (hH _ _);clear h
  go_enter Tryz.func40,Tryz.ntmps40
  go_wp2_with (go_at_call 78;refine H.out.mono ?_;rintro r1 w1 ⟨rfl,I⟩;subst I)
  refine Ti (v:=.tuple #[.slice none 0 0,.int .i64 4]) (by simp [results,Tryz.f40,go_sem]) rfl ?_;exact ⟨_,rfl,HX.out⟩
 |live s=>
  have G:SS S W g s:=h;obtain ⟨vn,vw,Z,v1,v2⟩:=G.ex;obtain ⟨c0,c1,c2,c3,c4,c5,c6,c7⟩:=Z.sb.cells;have H:Hid (Ta 78 #[cd g] W fun r w'=>r=.returned (.int .i64 0)/\w'=W):=fR c0;obtain ⟨pn,cn,en,_⟩:=aK Z.rn
  by_cases F:s.ns=[]
  ·have C:yB (.live s)=(0,s.endl.ws,.done):=by show (match iy s with|none=>_|some l=>_)=_;unfold iy;rw [IO F]
   rw [C];have aa:W.cell? ⟨g,1,none⟩=some (.slice pn 0 cn):=by rw [c1,en,F];rfl
   have HE:Hid (Ta 84 #[cd g] W fun rr w'=>rr=.returned (.tuple #[])/\∃p n c,w'.cell? ⟨g,2,none⟩=some (.slice p n c)/\(∃Q U,SB w' g false Q U s.endl.mr.isSome (s.endl.mr.getD 0:Nat) s.endl.wr s.endl.en s.endl.pt)/\∀J,Kp (fun k=>k=g) w' J->SB J g true (.slice none 0 0) (.slice none 0 0) false 0 false false false->Aq S g W J (.slice p n c) s.endl.ws .done):=by
    refine (mV G (by have:=hz.1.1;omega)).mono ?_;rintro rr w' ⟨rfl,⟨S1,a1,a2⟩,hk,_⟩;obtain ⟨Q,U,hv1,x1,x2⟩:=a1.ex;obtain ⟨p,c,e1,_⟩:=bG hv1.rd;subst e1;refine ⟨rfl,p,_,c,hv1.sb.cells.2.2.1,⟨_,_,hv1.sb⟩,fun J M O=>?_⟩;have r5:Rd J (.slice p s.endl.ws.length c) s.endl.ws:=M.row hv1.rd (fun k e1 e2=>aN hv1.rd hv1.sb (by decide) (by rw [e1,e2]));have Y:(Value.slice p s.endl.ws.length c).ownBlock≠some g:=aN hv1.rd hv1.sb (by decide);refine ⟨⟨fun k=>k=g,⟨O,rfl,fun k e=>by rw [e];exact O.lt⟩,fun k e=>.inl (by rw [e];exact G.sg),fun k e=>⟨a2 k (x2 k e),fun e2=>Y (by rw [<-e2];exact e)⟩⟩,r5,hk.step M (fun k _ e=>by rw [e];exact G.sg)⟩
   have q1:¬(0:Int)<0:=by omega
   clear h G Z v1 v2 c0 c1 c2 c3 c4 c5 c6 c7 en F C hz
   go_enter Tryz.func40,Tryz.ntmps40
   go_upto_region 8 with (first|(go_at_call 78;refine H.out.mono ?_;rintro r1 w1 ⟨rfl,I⟩;subst I)|(go_at_call 84;refine HE.out.mono ?_;rintro r2 w2 ⟨rfl,p2,n2,c2,y1,⟨vn2,vw2,y2⟩,y3⟩;have HY:=ai y3;clear y3))
   obtain ⟨d0,d1,d2,d3,d4,d5,d6,d7⟩:=y2.cells;have f0:=y2.frozen 0;have f1:=y2.frozen 1;have f2:=y2.frozen 2;have f3:=y2.frozen 3;have f4:=y2.frozen 4;have f5:=y2.frozen 5;have f6:=y2.frozen 6;have f7:=y2.frozen 7;have HZ:=show Hid _ from HY.out ((((((((w2.setCell ⟨g,0,none⟩ (.bool true)).setCell ⟨g,1,none⟩ (.slice none 0 0)).setCell ⟨g,2,none⟩ (.slice none 0 0)).setCell ⟨g,3,none⟩ (.bool false)).setCell ⟨g,4,none⟩ (.int .i64 0)).setCell ⟨g,5,none⟩ (.bool false)).setCell ⟨g,6,none⟩ (.bool false)).setCell ⟨g,7,none⟩ (.bool false)) ((((((((Kp.set _ _ _ _).trans (Kp.set _ _ _ _)).trans (Kp.set _ _ _ _)).trans (Kp.set _ _ _ _)).trans (Kp.set _ _ _ _)).trans (Kp.set _ _ _ _)).trans (Kp.set _ _ _ _)).trans (Kp.set _ _ _ _)) (aj (aj (aj (aj (aj (aj (aj (aj y2 0 _) 1 _) 2 _) 3 _) 4 _) 5 _) 6 _) 7 _)
   clear HY y2 HE H
   go_wp2_with fail
   refine Ti (v:=.tuple #[.slice p2 n2 c2,.int .i64 0]) (by simp [results,Tryz.f40,go_sem]) rfl ?_;exact ⟨_,rfl,HZ.out⟩
  ·have C:yB (.live s)=(130,[],.live s):=by show (match iy s with|none=>_|some l=>_)=_;unfold iy;rw [Eq F]
   rw [C];have aa:W.cell? ⟨g,1,none⟩=some (.slice pn s.ns.length cn):=by rw [c1,en]
   have q1:(0:Int)<(s.ns.length:Int):=by have:s.ns.length≠0:=fun h0=>F (Tl h0);omega
   have HX:Hid (Aq S g W W (.slice none 0 0) [] (.live s)):=uK (st:=.live s) h (hH _ _);clear h G Z v1 v2 c0 c1 c2 c3 c4 c5 c6 c7 en F C hz
   go_enter Tryz.func40,Tryz.ntmps40
   go_wp2_with (go_at_call 78;refine H.out.mono ?_;rintro r1 w1 ⟨rfl,I⟩;subst I)
   refine Ti (v:=.tuple #[.slice none 0 0,.int .i64 130]) (by simp [results,Tryz.f40,go_sem]) rfl ?_;exact ⟨_,rfl,HX.out⟩
def cU (l:List Nd):Nat:=(l.map (·.b)).sum
theorem br (n:Nd) (l:List Nd):cU (n :: l)=n.b+cU l:=by simp [cU]
def fI (s:Sy):Nat:=s.ws.length+cU s.ns
theorem NO (s:Sy) (p:Pz):fI (s.aw p)<=fI s+2/\(s.aw p).ns.length=s.ns.length/\(s.aw p).mr=s.mr/\s.ws.length<=(s.aw p).ws.length:=by
 refine ⟨?_,oy p s.ns,rfl,by rw [sa,Or];omega⟩;have C:=gN p s.ns
 have G:cU (iw p s.ns)<=cU s.ns+1:=by
  cases F:s.ns with
  |nil=>simp [iw,cU]
  |cons n r=>
   have H:p.n<=1:=by cases p <;> simp [Pz.n]
   simp only [iw];rw [br]
   split
   ·rw [br];show n.b-1+cU r<=_;omega
   ·rw [br];show n.b+p.n+cU r<=_;omega
 show (s.ws++jN p s.ns).length+cU (iw p s.ns)<=_
 rw [Or];unfold fI;omega
theorem fT (s:Sy) (l:List Pz):fI (s.aws l)<=fI s+2*l.length/\(s.aws l).ns.length=s.ns.length/\(s.aws l).mr=s.mr/\s.ws.length<=(s.aws l).ws.length:=by
 induction l generalizing s with
 |nil=>exact ⟨by simp [Sy.aws],rfl,rfl,gt _⟩
 |cons p l ih=>
  obtain ⟨G,C,F,H⟩:=ih (s.aw p);obtain ⟨b1,b2,b3,b4⟩:=NO s p;rw [cj];exact ⟨by simp only [List.length_cons];omega,C.trans b2,F.trans b3,by omega⟩
def Mo (s:Sy):Prop:=∀m,s.mr=some m->m<=s.ws.length
theorem Mo.aws {s:Sy}(h:Mo s) (l:List Pz):Mo (s.aws l):=fun m F=>by
 obtain ⟨_,_,C,G⟩:=fT s l;have:=h m (by rw [<-C];exact F);omega
theorem ir (s:Sy):fI s.exprIn<=fI s+4/\s.exprIn.ns.length=s.ns.length/\s.exprIn.mr=s.mr/\s.ws.length<=s.exprIn.ws.length:=by
 unfold Sy.exprIn
 split
 ·exact ⟨by omega,rfl,rfl,gt _⟩
 ·rename_i n r e
  have I:cU s.ns=n.b+cU r:=by rw [e,br]
  have Q:∀l:List Pz,(∀p∈l,jN p s.ns=[p.d])->True:=fun _ _=>trivial
  by_cases C:n.k=19
  ·obtain ⟨J,M,G,H⟩:=fT s [.S,.I 3];simp only [IO C];refine ⟨?_,by show ((_:Nd) :: r).length=_;rw [e];rfl,G,H⟩
   have O:(s.aws [.S,.I 3]).ws.length<=s.ws.length+2:=by
    show ((s.ws++jN .S s.ns)++jN (.I 3) (iw .S s.ns)).length<=_
    have:=gN .S s.ns;have:=gN (.I 3) (iw .S s.ns);rw [Or,Or];omega
   show (s.aws [.S,.I 3]).ws.length+cU (⟨n.k,n.b+1,true⟩ :: r)<=_
   rw [br];unfold fI;rw [I];show _+(n.b+1+cU r)<=_;omega
  ·by_cases F:n.k=31/\n.s=false
   ·obtain ⟨J,M,G,H⟩:=fT s [.B0];simp only [Eq C,IO F];refine ⟨?_,by show ((_:Nd) :: r).length=_;rw [e];rfl,G,H⟩
    have O:(s.aws [.B0]).ws.length<=s.ws.length+1:=by
     show (s.ws++jN .B0 s.ns).length<=_
     have:=gN .B0 s.ns;rw [Or];omega
    show (s.aws [.B0]).ws.length+cU (⟨n.k,n.b,true⟩ :: r)<=_
    rw [br];unfold fI;rw [I];show _+(n.b+cU r)<=_;omega
   ·simp only [Eq C,Eq F];refine ⟨?_,by show ((_:Nd) :: r).length=_;rw [e];rfl,by first|rfl|trivial,by first|exact gt _|trivial⟩;show s.ws.length+cU (⟨n.k,n.b,true⟩ :: r)<=_;rw [br];unfold fI;rw [I];show _+(n.b+cU r)<=_;omega
theorem Mo.exprIn (h:Mo s):Mo s.exprIn:=fun m F=>by
 obtain ⟨_,_,C,G⟩:=ir s;have:=h m (by rw [<-C];exact F);omega
theorem Mo.mark (h:Mo s) (k:Int):Mo (s.mark k):=by
 unfold Sy.mark
 split
 ·intro m C;cases C;exact gt _
 ·exact h
theorem rE (s:Sy) (k:Int):fI (s.opens k)<=fI s+12/\(s.opens k).ns.length<=s.ns.length+1:=by
 obtain ⟨C,F⟩:∃C,(if k=21 then s.exprIn else s)=C:=⟨_,rfl⟩
 have I:fI C<=fI s+4/\C.ns.length=s.ns.length:=by
  rw [<-F];split
  ·exact ⟨(ir s).1,(ir s).2.1⟩
  ·exact ⟨by omega,rfl⟩
 have J:fI (C.mark k)=fI C/\(C.mark k).ns=C.ns:=by unfold Sy.mark;split <;> exact ⟨rfl,rfl⟩
 have O:(qL k).length<=1:=by unfold qL;split;simp;split <;> simp
 obtain ⟨G,H,_,_⟩:=fT { (C.mark k) with ns:=⟨k,0,false⟩ :: (C.mark k).ns } (qL k)
 have M:fI ({ (C.mark k) with ns:=⟨k,0,false⟩ :: (C.mark k).ns }:Sy)=fI (C.mark k):=by
  show (C.mark k).ws.length+cU (⟨k,0,false⟩ :: (C.mark k).ns)=_
  rw [br];show _+(0+_)=_;unfold fI;omega
 have e:s.opens k=Sy.aws { (C.mark k) with ns:=⟨k,0,false⟩ :: (C.mark k).ns } (qL k):=by unfold Sy.opens;simp only;rw [F]
 rw [e];refine ⟨by rw [M] at G;omega,?_⟩;rw [H];show ((⟨k,0,false⟩:Nd) :: (C.mark k).ns).length<=_;rw [List.length_cons,J.2,I.2];omega
theorem Mo.opens (h:Mo s) (k:Int):Mo (s.opens k):=by
 unfold Sy.opens;simp only;refine Mo.aws ?_ _;have:Mo ((if k=21 then s.exprIn else s).mark k):=Mo.mark (by split;exact h.exprIn;exact h) k;exact this
theorem py (s:Sy):fI s.leaves<=fI s+12/\s.leaves.ns.length<=s.ns.length:=by
 unfold Sy.leaves
 split
 ·exact ⟨by omega,gt _⟩
 ·rename_i n r e
  refine ⟨?_,by rw [e];simp⟩;show (s.ws++List.replicate n.b dX++(if n.k=1 then [dH] else [])).length+cU r<=_;unfold fI;rw [e,br,Or,Or,UW]
  split <;> simp <;> omega
theorem Mo.leaves (h:Mo s):Mo s.leaves:=by
 unfold Sy.leaves
 split
 ·exact h
 ·intro m C;have:=h m C;show m<=(s.ws++List.replicate _ dX++_).length;rw [Or,Or];omega
theorem Cx (s:Sy) (a:Fx) (f:Int):fI (s.ready a f)<=fI s+7/\(s.ready a f).ns.length=s.ns.length:=by
 obtain ⟨H,C,_,_⟩:=fT s a.pz;have J:=yO a
 have I:fI ((s.aws a.pz).emp f)<=fI (s.aws a.pz)+1:=by
  unfold Sy.emp
  split
  ·omega
  ·split
   ·omega
   ·rename_i m _ _
    show ((s.aws a.pz).ws.take m++dE :: (s.aws a.pz).ws.drop m).length+cU (s.aws a.pz).ns<=_
    unfold fI;simp only [Or,Ty,List.length_cons,Tw];omega
 have F:∀u:Sy,fI u.endl<=fI u+1:=fun u=>by
  unfold Sy.endl
  split
  ·show (dH :: u.ws).length+cU u.ns<=_;unfold fI;simp;omega
  ·omega
 have G:∀u:Sy,fI u.part<=fI u+1:=fun u=>by
  unfold Sy.part
  split
  ·show (u.ws++[dS]).length+cU u.ns<=_;unfold fI;simp;omega
  ·omega
 unfold Sy.ready;refine ⟨?_,by rw [nQ,lg,uf,C]⟩;have:=G ((s.aws a.pz).emp f).endl;have:=F ((s.aws a.pz).emp f);omega
theorem vW (s:Sy) (t:Tv):(s.leaf t).2.length+fI (s.leaf t).1<=fI s+12/\(s.leaf t).1.ns.length=s.ns.length:=by
 unfold Sy.leaf
 split
 ·exact ⟨by simp,rfl⟩
 ·rename_i n r e
  obtain ⟨C,F⟩:=Cx s (aH n t).a t.f;obtain ⟨b1,b2,_,_⟩:=fT ⟨(s.ready (aH n t).a t.f).ns,[],none,true,false,false⟩ (aH n t).b.pz;have G:=yO (aH n t).b;refine ⟨?_,?_⟩
  ·show ((s.ready (aH n t).a t.f).ws++[dT t.t]).length+fI (Sy.aws ⟨(s.ready (aH n t).a t.f).ns,[],none,true,false,false⟩ (aH n t).b.pz)<=_
   have:fI ⟨(s.ready (aH n t).a t.f).ns,[],none,true,false,false⟩=cU (s.ready (aH n t).a t.f).ns:=by unfold fI;simp
   rw [this] at b1;unfold fI at C;rw [Or];simp only [List.length_cons,List.length_nil];unfold fI at b1 ⊢;omega
  ·show (Sy.aws ⟨(s.ready (aH n t).a t.f).ns,[],none,true,false,false⟩ (aH n t).b.pz).ns.length=_
   rw [b2];exact F
theorem Mo.leaf (h:Mo s) (t:Tv):Mo (s.leaf t).1:=by
 unfold Sy.leaf
 split
 ·exact h
 ·show Mo (Sy.aws ⟨_,[],none,true,false,false⟩ _)
  exact Mo.aws (fun m C=>by cases C) _
theorem vV (s:Sy) (t:Tv):(s.note t).2.length+fI (s.note t).1<=fI s+12/\(s.note t).1.ns.length=s.ns.length:=by
 have C:(s.ws.takeWhile bj).length+(s.ws.dropWhile bj).length=s.ws.length:=by
  rw [<-Or,U6]
 unfold Sy.note;simp only
 split
 ·refine ⟨?_,rfl⟩;show (s.ws.takeWhile bj++[dS,dT t.t]).length+((s.ws.dropWhile bj).length+cU s.ns)<=_;unfold fI;simp;omega
 ·refine ⟨?_,rfl⟩;show (s.ws.takeWhile bj++dH :: ((if _ then [dE] else [])++[dT t.t])).length+((s.ws.dropWhile bj).length+cU s.ns)<=_;unfold fI
  split <;> simp <;> omega
theorem Mo.note {s:Sy}(t:Tv):Mo (s.note t).1:=by
 unfold Sy.note;simp only
 split <;> (intro m C;cases C)
theorem Ka {e:Ev}(h:dO s e=some (s',l)):l.length+fI s'<=fI s+12/\s'.ns.length<=s.ns.length+1/\(Mo s->Mo s'):=by
 unfold dO at h
 split at h
 ·have C:=TE h;obtain ⟨F,G⟩:(s.step e).1=s'/\(s.step e).2=l:=⟨by rw [C],by rw [C]⟩;rw [<-F,<-G];unfold Sy.step
  split
  ·exact ⟨by have:=(rE s e.n).1;simpa using this,(rE s e.n).2,fun h=>h.opens _⟩
  ·split
   ·exact ⟨by have:=(py s).1;simpa using this,by have:=(py s).2;show s.leaves.ns.length<=_;omega,fun h=>h.leaves⟩
   ·split
    ·exact ⟨(vW s e.d).1,by rw [(vW s e.d).2];omega,fun h=>h.leaf _⟩
    ·exact ⟨(vV s e.d).1,by rw [(vV s e.d).2];omega,fun _=>Mo.note _⟩
 ·cases h
theorem Hs {l:List Nd}{x:Nd}(h:x∈l):x.b<=cU l:=by
 induction l with
 |nil=>cases h
 |cons n r ih=>
  rw [br]
  rcases Tt.1 h with rfl|h
  ·omega
  ·have:=ih h;omega
theorem Nk {s:Sy}{j:Nat}(C:fI s<=12*j) (H:s.ns.length<=j) (F:Mo s) (I:j<=30000000):Q1 (.live s):=by
 unfold fI at C;exact ⟨⟨by omega,by omega,fun x G=>by have:=Hs G;omega⟩,F⟩
end Go.Proofs.YtcjiapphbpiffaaGreatDoor
