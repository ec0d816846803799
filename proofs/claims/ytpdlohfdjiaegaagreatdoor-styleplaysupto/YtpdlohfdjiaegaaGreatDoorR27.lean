import Derived.Lib.Overlaps
import Derived.Lib.AppendZerosOnto
import Derived.Laws.Externs
import Derived.Test.YtpdlohfdjiaegaaGreatDoorR26
set_option linter.unusedVariables false
set_option linter.unusedSimpArgs false
set_option maxHeartbeats 4000000
set_option maxRecDepth 100000
namespace Go.Proofs.YtpdlohfdjiaegaaGreatDoor
open Go.RowKit
open Lw (Dc bE rt frm dep rtT rtN dcs au aH)
variable {l:List Dc}{W w:World}{cap i g b:Nat}{α:Type}{ao:Option Addr}{st:Sy}{vn vw v:Value}
def Ld (w:World) (ao:Option Addr) (l:List Dc):Prop:=∀j d,l[j]?=some d->∃b off,ao=some ⟨b,off,none⟩ /\
 w.cell? ⟨b,off+j*5,none⟩=some (.int .u8 d.k)/\w.cell? ⟨b,off+j*5+1,none⟩=some (.string d.t)/\w.cell? ⟨b,off+j*5+2,none⟩=some (.int .i64 d.b)/\w.cell? ⟨b,off+j*5+3,none⟩=some (.int .i64 d.i)/\w.cell? ⟨b,off+j*5+4,none⟩=some (.bool d.e)
theorem Ld.kp {S:Nat->Prop}{w w':World}{ao:Option Addr}{l:List Dc}(h:Ld w ao l) (hb:Kp S w w') (hS:∀a,ao=some a->¬S a.block):Ld w' ao l:=by
 intro j a ha;obtain ⟨b,off,h1,c0,c1,c2,c3,c4⟩:=h j a ha;have hlt:=zy _ _ c0;have e:w'.heap[b]?=w.heap[b]?:=hb.block b hlt (hS _ h1);exact ⟨b,off,h1,(zG (a:=⟨b,_,none⟩) e).trans c0,(zG (a:=⟨b,_,none⟩) e).trans c1,(zG (a:=⟨b,_,none⟩) e).trans c2,(zG (a:=⟨b,_,none⟩) e).trans c3,(zG (a:=⟨b,_,none⟩) e).trans c4⟩
theorem Ld.below {w':World}(h:Ld w ao l) (hb:Below w.heap.size w w'):Ld w' ao l:=h.kp (Kp.of_below (S:=fun _=>False) hb) (fun _ _ h=>h)
theorem Ld.take (h:Ld w ao l) (n:Nat):Ld w ao (l.take n):=by
 intro j d hj;rw [Ag] at hj
 split at hj
 ·exact h j d hj
 ·cases hj
theorem kR {p:Option Addr}{n:Nat}(h:Rd w (.slice p n cap) l):Ld w p l:=by
 intro j d hj
 rcases h.2 with ⟨h1,h0⟩|⟨g,cap',cur,h1,_⟩
 ·have:l=[]:=zI h0;subst this;simp at hj
 ·cases h1
  have hc:∀(k:Nat) (u:Value),(dcs l)[k]?=some u->w.cell? ⟨g,k,none⟩=some u:=fun k u hu=>by
   have:=AZ h (g:=g) rfl k u hu;rw [AM,zC] at this;exact this
  refine ⟨g,0,rfl,?_,?_,?_,?_,?_⟩
  ·rw [zC];exact hc _ _ (aD Dc.cs 5 Lw.Dc.cs_len l j 0 d _ hj rfl)
  ·rw [zC];exact hc _ _ (aD Dc.cs 5 Lw.Dc.cs_len l j 1 d _ hj rfl)
  ·rw [zC];exact hc _ _ (aD Dc.cs 5 Lw.Dc.cs_len l j 2 d _ hj rfl)
  ·rw [zC];exact hc _ _ (aD Dc.cs 5 Lw.Dc.cs_len l j 3 d _ hj rfl)
  ·rw [zC];exact hc _ _ (aD Dc.cs 5 Lw.Dc.cs_len l j 4 d _ hj rfl)
theorem fT (p:α->Bool) (l:List α) (k:Nat) (x:α) (hx:l[k]?=some x) (h:(l.take k).any p=false):(l.take (k+1)).any p=p x:=by
 rw [Cz,hx,List.any_append,h];simp
theorem fS (p:α->Bool) (l:List α) (k:Nat) (h:(l.take k).any p=true):l.any p=true:=by
 rw [B7] at h ⊢;obtain ⟨x,hx,e⟩:=h;exact ⟨x,Bu hx,e⟩
theorem sE (ao:Option Addr) (l:List Dc) (cap:Nat) (W:World) (h:Ld W ao l) (hl:l.length<=1000000000) :
  Aa 128 #[.slice ao l.length cap,.func (.func 123) #[] #[]] W fun r w'=>(∃z:Int,r=.returned (.int .i64 z)/\(decide (0<=z)=l.any aK))/\Below W.heap.size W w':=by
 have H:Hid (Ld W ao l):=h;clear h;have HP:Hid (∀(d:Dc) (V:World),Aa 123 #[.agg #[.int .u8 d.k,.string d.t,.int .i64 d.b,.int .i64 d.i,.bool d.e]] V fun e w'=>e=.returned (.bool (aK d))/\Ab V w'):=lC
 go_enter Tryz.func128,Tryz.ntmps128
 go_wp2_with fail
 go_loopw [5,8] (fun _ i wr=>∃k:Nat,k<=l.length/\i=.int .i64 k/\Hid ((l.take k).any aK=false)/\Hid (Below W.heap.size W wr)) (fun _ i _=>l.length-(intOf i).toNat)
 case atStart=>exact ⟨0,zx _,rfl,by show _=_;simp,gt _ _⟩
 case round=>
  obtain ⟨k,hk,rfl,HI,HB⟩:=hrel
  by_cases hlt:k<l.length
  ·have q1:(k:Int)<l.length:=by omega
   have q0:(0:Int)<=k:=by omega
   obtain ⟨x,hx⟩:∃x,l[k]?=some x:=⟨_,hH hlt⟩;obtain ⟨b,off,rfl,c0,c1,c2,c3,c4⟩:=(H.out.below HB.out) k x hx;have HS:Hid ((l.take (k+1)).any aK=aK x):=fT aK l k x hx HI.out;have HT:Hid ((l.take (k+1)).any aK=true->l.any aK=true):=fS aK l _;clear hx
   by_cases he:aK x=true
   ·go_wp2_with (go_at_call 123;refine (HP.out x _).mono ?_;rintro e w1 ⟨rfl,hb1⟩;rw [he];have HC:Hid (Ab W w1):=HB.out.trans (hb1.mono HB.out.size);clear hb1)
    go_ret
    exact ⟨⟨_,rfl,by rw [HT.out (HS.out.trans he)];simp⟩,HC.out⟩
   ·have he':aK x=false:=by simpa using he
    clear he
    go_wp2_with (go_at_call 123;refine (HP.out x _).mono ?_;rintro e w1 ⟨rfl,hb1⟩;rw [he'];have HC:Hid (Ab W w1):=HB.out.trans (hb1.mono HB.out.size);clear hb1)
    exact ⟨⟨k+1,hlt,by go_num,HS.out.trans he',HC⟩,by simp [intOf];omega⟩
  ·obtain rfl:k=l.length:=by omega
   have q1:¬((l.length:Int)<l.length):=by omega
   go_wp2_with fail
   go_ret
   refine ⟨⟨_,rfl,?_⟩,HB.out⟩;have:=HI.out;rw [Aw] at this;rw [this];rfl
theorem tI (ao:Option Addr) (l:List Dc) (cap:Nat) (W:World) (h:Ld W ao l) (hl:l.length<=1000000000) :
  Aa 79 #[.slice ao l.length cap,.func (.func 123) #[] #[]] W fun r w'=>r=.returned (.bool (l.any aK))/\Below W.heap.size W w':=by
 have H:Hid (Aa 128 #[.slice ao l.length cap,.func (.func 123) #[] #[]] W fun r w'=>(∃z:Int,r=.returned (.int .i64 z)/\(decide (0<=z)=l.any aK))/\Ab W w'):=sE ao l cap W h hl;clear h
 generalize l.any aK=b at *
 go_enter Tryz.func79,Tryz.ntmps79
 go_wp2_with (go_at_call 128;refine H.out.mono ?_;rintro r w1 ⟨⟨z,rfl,hz⟩,hb1⟩;have HB:Hid (Ab W w1):=hb1;clear hb1;subst hz)
 go_ret
 exact ⟨by simp,HB.out⟩
theorem sC (ao:Option Addr) (l:List Dc) (cap:Nat) (W:World) (h:Ld W ao l) (hl:l.length<=1000000000) :
  Aa 128 #[.slice ao l.length cap,.func (.func 47) #[] #[]] W fun r w'=>(∃z:Int,r=.returned (.int .i64 z)/\(decide (0<=z)=l.any cq))/\Below W.heap.size W w':=by
 have H:Hid (Ld W ao l):=h;clear h;have HP:Hid (∀(d:Dc) (V:World),Aa 47 #[.agg #[.int .u8 d.k,.string d.t,.int .i64 d.b,.int .i64 d.i,.bool d.e]] V fun e w'=>e=.returned (.bool (cq d))/\Ab V w'):=sF
 go_enter Tryz.func128,Tryz.ntmps128
 go_wp2_with fail
 go_loopw [5,8] (fun _ i wr=>∃k:Nat,k<=l.length/\i=.int .i64 k/\Hid ((l.take k).any cq=false)/\Hid (Below W.heap.size W wr)) (fun _ i _=>l.length-(intOf i).toNat)
 case atStart=>exact ⟨0,zx _,rfl,by show _=_;simp,gt _ _⟩
 case round=>
  obtain ⟨k,hk,rfl,HI,HB⟩:=hrel
  by_cases hlt:k<l.length
  ·have q1:(k:Int)<l.length:=by omega
   have q0:(0:Int)<=k:=by omega
   obtain ⟨x,hx⟩:∃x,l[k]?=some x:=⟨_,hH hlt⟩;obtain ⟨b,off,rfl,c0,c1,c2,c3,c4⟩:=(H.out.below HB.out) k x hx;have HS:Hid ((l.take (k+1)).any cq=cq x):=fT cq l k x hx HI.out;have HT:Hid ((l.take (k+1)).any cq=true->l.any cq=true):=fS cq l _;clear hx
   by_cases he:cq x=true
   ·go_wp2_with (go_at_call 47;refine (HP.out x _).mono ?_;rintro e w1 ⟨rfl,hb1⟩;rw [he];have HC:Hid (Ab W w1):=HB.out.trans (hb1.mono HB.out.size);clear hb1)
    go_ret
    exact ⟨⟨_,rfl,by rw [HT.out (HS.out.trans he)];simp⟩,HC.out⟩
   ·have he':cq x=false:=by simpa using he
    clear he
    go_wp2_with (go_at_call 47;refine (HP.out x _).mono ?_;rintro e w1 ⟨rfl,hb1⟩;rw [he'];have HC:Hid (Ab W w1):=HB.out.trans (hb1.mono HB.out.size);clear hb1)
    exact ⟨⟨k+1,hlt,by go_num,HS.out.trans he',HC⟩,by simp [intOf];omega⟩
  ·obtain rfl:k=l.length:=by omega
   have q1:¬((l.length:Int)<l.length):=by omega
   go_wp2_with fail
   go_ret
   refine ⟨⟨_,rfl,?_⟩,HB.out⟩;have:=HI.out;rw [Aw] at this;rw [this];rfl
theorem tG (ao:Option Addr) (l:List Dc) (cap:Nat) (W:World) (h:Ld W ao l) (hl:l.length<=1000000000) :
  Aa 79 #[.slice ao l.length cap,.func (.func 47) #[] #[]] W fun r w'=>r=.returned (.bool (l.any cq))/\Below W.heap.size W w':=by
 have H:Hid (Aa 128 #[.slice ao l.length cap,.func (.func 47) #[] #[]] W fun r w'=>(∃z:Int,r=.returned (.int .i64 z)/\(decide (0<=z)=l.any cq))/\Ab W w'):=sC ao l cap W h hl;clear h
 generalize l.any cq=b at *
 go_enter Tryz.func79,Tryz.ntmps79
 go_wp2_with (go_at_call 128;refine H.out.mono ?_;rintro r w1 ⟨⟨z,rfl,hz⟩,hb1⟩;have HB:Hid (Ab W w1):=hb1;clear hb1;subst hz)
 go_ret
 exact ⟨by simp,HB.out⟩
theorem qL (h:SV W g st vn vw) (hl:st.ws.length<=1000000000) :
  Aa 46 #[spg g,.func (.func 47) #[] #[]] W fun r w'=>r=.returned (.bool (st.ws.any cq))/\Below W.heap.size W w':=by
 obtain ⟨p,cap,e,_⟩:=aL h.rd;subst e;have H:Hid (Aa 79 #[.slice p st.ws.length cap,.func (.func 47) #[] #[]] W fun r w'=>r=.returned (.bool (st.ws.any cq))/\Ab W w'):=tG p st.ws cap W (kR h.rd) hl;obtain ⟨c0,c1,c2,c3,c4,c5,c6,c7⟩:=h.sb.cells
 generalize st.ws.any cq=b at *
 generalize st.ws.length=n at *
 clear h c0 c1 c3 c4 c5 c6 c7
 go_enter Tryz.func46,Tryz.ntmps46
 go_wp2_with (go_at_call 79;refine H.out.mono ?_;rintro r w1 ⟨rfl,hb1⟩;have HB:Hid (Ab W w1):=hb1;clear hb1)
 go_ret
 exact ⟨rfl,HB.out⟩
theorem sD (ao:Option Addr) (l:List Dc) (cap:Nat) (W:World) (h:Ld W ao l) (hl:l.length<=1000000000) :
  Aa 128 #[.slice ao l.length cap,.func (.func 72) #[] #[]] W fun r w'=>(∃z:Int,r=.returned (.int .i64 z)/\(decide (0<=z)=l.any bZ))/\Below W.heap.size W w':=by
 have H:Hid (Ld W ao l):=h;clear h;have HP:Hid (∀(d:Dc) (V:World),Aa 72 #[.agg #[.int .u8 d.k,.string d.t,.int .i64 d.b,.int .i64 d.i,.bool d.e]] V fun e w'=>e=.returned (.bool (bZ d))/\Ab V w'):=sG
 go_enter Tryz.func128,Tryz.ntmps128
 go_wp2_with fail
 go_loopw [5,8] (fun _ i wr=>∃k:Nat,k<=l.length/\i=.int .i64 k/\Hid ((l.take k).any bZ=false)/\Hid (Below W.heap.size W wr)) (fun _ i _=>l.length-(intOf i).toNat)
 case atStart=>exact ⟨0,zx _,rfl,by show _=_;simp,gt _ _⟩
 case round=>
  obtain ⟨k,hk,rfl,HI,HB⟩:=hrel
  by_cases hlt:k<l.length
  ·have q1:(k:Int)<l.length:=by omega
   have q0:(0:Int)<=k:=by omega
   obtain ⟨x,hx⟩:∃x,l[k]?=some x:=⟨_,hH hlt⟩;obtain ⟨b,off,rfl,c0,c1,c2,c3,c4⟩:=(H.out.below HB.out) k x hx;have HS:Hid ((l.take (k+1)).any bZ=bZ x):=fT bZ l k x hx HI.out;have HT:Hid ((l.take (k+1)).any bZ=true->l.any bZ=true):=fS bZ l _;clear hx
   by_cases he:bZ x=true
   ·go_wp2_with (go_at_call 72;refine (HP.out x _).mono ?_;rintro e w1 ⟨rfl,hb1⟩;rw [he];have HC:Hid (Ab W w1):=HB.out.trans (hb1.mono HB.out.size);clear hb1)
    go_ret
    exact ⟨⟨_,rfl,by rw [HT.out (HS.out.trans he)];simp⟩,HC.out⟩
   ·have he':bZ x=false:=by simpa using he
    clear he
    go_wp2_with (go_at_call 72;refine (HP.out x _).mono ?_;rintro e w1 ⟨rfl,hb1⟩;rw [he'];have HC:Hid (Ab W w1):=HB.out.trans (hb1.mono HB.out.size);clear hb1)
    exact ⟨⟨k+1,hlt,by go_num,HS.out.trans he',HC⟩,by simp [intOf];omega⟩
  ·obtain rfl:k=l.length:=by omega
   have q1:¬((l.length:Int)<l.length):=by omega
   go_wp2_with fail
   go_ret
   refine ⟨⟨_,rfl,?_⟩,HB.out⟩;have:=HI.out;rw [Aw] at this;rw [this];rfl
theorem tH (ao:Option Addr) (l:List Dc) (cap:Nat) (W:World) (h:Ld W ao l) (hl:l.length<=1000000000) :
  Aa 79 #[.slice ao l.length cap,.func (.func 72) #[] #[]] W fun r w'=>r=.returned (.bool (l.any bZ))/\Below W.heap.size W w':=by
 have H:Hid (Aa 128 #[.slice ao l.length cap,.func (.func 72) #[] #[]] W fun r w'=>(∃z:Int,r=.returned (.int .i64 z)/\(decide (0<=z)=l.any bZ))/\Ab W w'):=sD ao l cap W h hl;clear h
 generalize l.any bZ=b at *
 go_enter Tryz.func79,Tryz.ntmps79
 go_wp2_with (go_at_call 128;refine H.out.mono ?_;rintro r w1 ⟨⟨z,rfl,hz⟩,hb1⟩;have HB:Hid (Ab W w1):=hb1;clear hb1;subst hz)
 go_ret
 exact ⟨by simp,HB.out⟩
theorem qM (h:SV W g st vn vw) (hl:st.ws.length<=1000000000) :
  Aa 46 #[spg g,.func (.func 72) #[] #[]] W fun r w'=>r=.returned (.bool (st.ws.any bZ))/\Below W.heap.size W w':=by
 obtain ⟨p,cap,e,_⟩:=aL h.rd;subst e;have H:Hid (Aa 79 #[.slice p st.ws.length cap,.func (.func 72) #[] #[]] W fun r w'=>r=.returned (.bool (st.ws.any bZ))/\Ab W w'):=tH p st.ws cap W (kR h.rd) hl;obtain ⟨c0,c1,c2,c3,c4,c5,c6,c7⟩:=h.sb.cells
 generalize st.ws.any bZ=b at *
 generalize st.ws.length=n at *
 clear h c0 c1 c3 c4 c5 c6 c7
 go_enter Tryz.func46,Tryz.ntmps46
 go_wp2_with (go_at_call 79;refine H.out.mono ?_;rintro r w1 ⟨rfl,hb1⟩;have HB:Hid (Ab W w1):=hb1;clear hb1)
 go_ret
 exact ⟨rfl,HB.out⟩
theorem Kp.setRow (w:World) (g:Nat) (cs:Array Value):Kp (fun j=>j=g) w (w.setRow g cs):=
 ⟨rfl,rfl,rfl,by show _<=(w.setRow g cs).heap.size;simp [World.setRow],fun j hj hS=>setRow_other w g j cs hS⟩
theorem eG:∃i0,Tryz.prog.info? 57=some i0/\i0.zero=some (.agg #[.int .u8 0,.string ⟨#[]⟩,.int .i64 0,.int .i64 0,.bool false])/\i0.size=5/\i0.bytes=48:=Az Tryz.info57
theorem fB:(Tryz.prog.info? 57).map (·.size)=some 5:=by
 obtain ⟨i0,hi,_,h1,_⟩:=eG;rw [hi];simp [h1]
theorem cZ {W:World}{g:Nat}{cur:List Value}{t:TypeId}{f:Nat × Nat}(h:W.heap[g]?=some (.cells cur.toArray t f)) (o:Nat) (cs:List Value) (hc:∀j v,cs[j]?=some v->cur[o+j]?=some v):∀j v,cs[j]?=some v->W.cell? ((⟨g,o,none⟩:Addr).add j)=some v:=by
 intro j v hj;rw [AM];simp [World.cell?,h,hc j v hj]
theorem lX (l:List Dc) (k:Nat):(dcs l).take (k*5)=dcs (l.take k):=gp Dc.cs 5 Lw.Dc.cs_len k l
theorem iY (l:List Dc) (k:Nat):(dcs l).drop (k*5)=dcs (l.drop k):=eU Dc.cs 5 Lw.Dc.cs_len k l
theorem iX (d:Dc):dcs [d]=[.int .u8 d.k,.string d.t,.int .i64 d.b,.int .i64 d.i,.bool d.e]:=by simp [dcs,aN,Dc.cs]
theorem kF (A Z D R:List α) (k m:Nat) (hk:A.length=k) (hD:D.length=m) (hz:m+R.length<=Z.length) :
  ((A++Z).take k++D++(A++Z).drop (k+m)).take (k+m)++R++((A++Z).take k++D++(A++Z).drop (k+m)).drop (k+m+R.length)=A++D++R++Z.drop (m+R.length):=by
 subst hk;subst hD;rw [List.take_left,B5,AO (by omega),Ay,BE];have e1:(A++D).length=A.length+D.length:=zq;rw [AF (by omega),<-e1,Aw,B5,AO (by omega),Ay,BE,Do]
theorem mU (d:Dc) {gv:Nat}(h:Rd W v l) (hg:W.heap[gv]?=some (.cells #[.int .u8 d.k,.string d.t,.int .i64 d.b,.int .i64 d.i,.bool d.e] 57 (0,0))) (hl:l.length<=1000000000) :
  Aa 48 #[v,.int .i64 l.length,.slice (some ⟨gv,0,none⟩) 1 1] W fun r w'=>∃v',r=.returned v'/\Rd w' v' (l++[d])/\Kp (fun k=>v.ownBlock=some k) W w'/\Nb W v v':=by
 obtain ⟨p,cap,rfl,hc1,hc2⟩:=aL h;have HR:Hid (Rd W (.slice p l.length cap) l):=h;have HG:Hid (W.heap[gv]?=some (.cells (dcs [d]).toArray 57 (0,0))):=by rw [iX];exact hg
 have q1:(0:Int)<=l.length:=by omega
 have q2:(cap:Int)<=9223372036854775807:=by unfold maxLen at hc2;omega
 clear h hg
 by_cases hcc:cap=l.length
 ·subst hcc
  go_enter D8,DZ
  go_wp2_with (at_builtin;refine fR rfl _ _ rfl (.slice p l.length l.length) l [d] rfl HR.out gv 1 rfl HG.out (by simp;omega) ?_;intro v' w' h1 h2 h3;have HX:Hid (Rd w' v' (l++[d])/\Kp (fun k=>(Value.slice p l.length l.length).ownBlock=some k) W w'/\Nb W (.slice p l.length l.length) v'):=⟨h1,(Kp.of_grown h2).sub (fun k e=>e.symm),h3⟩;clear h1 h2 h3)
  go_ret
  exact ⟨_,rfl,HX.out⟩
 ·go_enter D8,DZ
  go_wp2_with (at_builtin;refine fR rfl _ _ rfl (.slice p l.length cap) l [d] rfl HR.out gv 1 rfl HG.out (by simp;omega) ?_;intro v' w' h1 h2 h3;have HX:Hid (Rd w' v' (l++[d])/\Kp (fun k=>(Value.slice p l.length cap).ownBlock=some k) W w'/\Nb W (.slice p l.length cap) v'):=⟨h1,(Kp.of_grown h2).sub (fun k e=>e.symm),h3⟩;clear h1 h2 h3)
  go_ret
  exact ⟨_,rfl,HX.out⟩
theorem lD (d:Dc) {gv:Nat}(h:Rd W (.slice (some ⟨b,0,none⟩) l.length cap) l) (hi:i<l.length) (hroom:l.length+1<=cap) (hg:W.heap[gv]?=some (.cells #[.int .u8 d.k,.string d.t,.int .i64 d.b,.int .i64 d.i,.bool d.e] 57 (0,0))) (hne:gv≠b) (hl:l.length<=1000000000) :
  Aa 48 #[.slice (some ⟨b,0,none⟩) l.length cap,.int .i64 i,.slice (some ⟨gv,0,none⟩) 1 1] W fun r w'=>∃v',r=.returned v'/\Rd w' v' (l.take i++d :: l.drop i)/\Kp (fun k=>k=b) W w'/\Nb W (.slice (some ⟨b,0,none⟩) l.length cap) v':=by
 obtain ⟨cur,hb,hcm,hcs,htk⟩:∃cur:List Value,W.heap[b]?=some (.cells cur.toArray 57 (0,0))/\cap<=maxLen/\cur.length=cap*5/\cur.take (l.length*5)=dcs l:=by
  rcases h.2 with ⟨h1,_⟩|⟨g,cap',cur,h1,_,h3,_,h5,h6,h7⟩
  ·cases h1
  ·cases h1;exact ⟨cur.toList,by simpa using h3,h5,by simpa using h6,h7⟩
 obtain ⟨n,hn⟩:∃n,l.length=n:=⟨_,rfl⟩;rw [hn] at hi hroom hl htk;have hcap:(cap:Int)<=9223372036854775807:=by unfold maxLen at hcm;omega
 have hR:(dcs (l.drop i)).length=(n-i)*5:=by rw [au,zN,hn]
 have hcp1:∀ty dc sc,(Builtin.copy_ #[46,46] ty #[.slice (some ⟨b,(i+1)*5,none⟩) (n-i) dc,.slice (some ⟨b,i*5,none⟩) (n+1-i) sc]).run Tryz.prog W.drew=.ok (goInt ((n-i:Nat):Int)) (W.drew.setRow b (cur.take ((i+1)*5)++dcs (l.drop i)++cur.drop ((i+1)*5+(dcs (l.drop i)).length)).toArray):=fun ty dc sc=>by
  have hm:Nat.min (n+1-i) (n-i)=n-i:=by show min _ _=_;omega
  have:=cu (P:=Tryz.prog) W.drew 46 46 ty 57 5 b ((i+1)*5) (n-i) dc ⟨b,i*5,none⟩ (n+1-i) sc cur.toArray 57 (dcs (l.drop i)) zU fB hb (by rw [hR,hm]) (cZ (W:=W.drew) hb (i*5) _ (fun j v hj=>by
   rw [<-iY,Aj,<-htk,Ag] at hj
   split at hj
   ·exact hj
   ·cases hj)) (by rw [hR];simp;omega) (aH _)
  rw [hm] at this
  simpa using this
 obtain ⟨c1,hc1⟩:∃c1:List Value,cur.take ((i+1)*5)++dcs (l.drop i)++cur.drop ((i+1)*5+(dcs (l.drop i)).length)=c1:=⟨_,rfl⟩;rw [hc1] at hcp1;have hl1:c1.length=cap*5:=by rw [<-hc1];simp only [zq,zH,zN,hR,hcs];omega
 obtain ⟨W1,hW1⟩:∃W1,W.drew.setRow b c1.toArray=W1:=⟨_,rfl⟩;rw [hW1] at hcp1;have hb1:W1.heap[b]?=some (.cells c1.toArray 57 (0,0)):=by rw [<-hW1];exact CA W.drew b _ _ _ _ hb
 have hk1:Kp (fun k=>k=b) W W1:=by rw [<-hW1];exact ((Kp.of_below ((gt _ W).drew)).step (Kp.setRow W.drew b c1.toArray) (fun _ _ h=>h))
 have hg1:=hk1.blk hg hne
 have hcp2:∀ty dc,(Builtin.copy_ #[46,46] ty #[.slice (some ⟨b,i*5,none⟩) (n+1-i) dc,.slice (some ⟨gv,0,none⟩) 1 1]).run Tryz.prog W1=.ok (goInt 1) (W1.setRow b (c1.take (i*5)++dcs [d]++c1.drop (i*5+5)).toArray):=fun ty dc=>by
  have hm:Nat.min 1 (n+1-i)=1:=by show min _ _=_;omega
  have:=cu (P:=Tryz.prog) W1 46 46 ty 57 5 b (i*5) (n+1-i) dc ⟨gv,0,none⟩ 1 1 c1.toArray 57 (dcs [d]) zU fB hb1 (by rw [au,hm];rfl) (cZ (cur:=dcs [d]) (by rw [iX];exact hg1) 0 _ (fun j v hj=>by rw [zC];exact hj)) (by rw [au];simp;omega) (aH _);rw [hm] at this
  simpa [au] using this
 obtain ⟨c2,hc2⟩:∃c2:List Value,c1.take (i*5)++dcs [d]++c1.drop (i*5+5)=c2:=⟨_,rfl⟩;rw [hc2] at hcp2;have hl2:c2.length=cap*5:=by rw [<-hc2];simp only [zq,zH,zN,au,hl1,List.length_cons,Ao];omega
 have hk2:Kp (fun k=>k=b) W (W1.setRow b c2.toArray):=hk1.trans (Kp.setRow W1 b _);have hb2:(W1.setRow b c2.toArray).heap[b]?=some (.cells c2.toArray 57 (0,0)):=CA W1 b _ _ _ _ hb1
 have hfin:c2.take ((n+1)*5)=dcs (l.take i++d :: l.drop i):=by
  have e1:c1.take (i*5)=dcs (l.take i):=by
   rw [<-hc1,zJ,AF (by rw [zH,hcs];omega),B4,BW (by omega),<-lX,<-htk,B4,BW (by omega)]
  have e2:c1.drop (i*5+5)=dcs (l.drop i)++cur.drop ((i+1)*5+(dcs (l.drop i)).length):=by
   rw [<-hc1,zJ,B5,AO (by rw [zH,hcs];omega),Ay,zH,hcs];rw [show i*5+5-min ((i+1)*5) (cap*5)=0 by omega,BI]
  have e3:dcs (l.take i++d :: l.drop i)=dcs (l.take i)++(dcs [d]++dcs (l.drop i)):=by rw [cz,show d :: l.drop i=[d]++l.drop i from rfl,cz]
  rw [<-hc2,e1,e2,e3,zJ,<-zJ (dcs [d]),<-zJ];rw [AF (by simp only [zq,au,zH,zN,hn,List.length_cons,Ao];omega)];rw [Ak (by simp only [zq,au,zH,zN,hn,List.length_cons,Ao];omega)]
 have HX:Hid (Rd (W1.setRow b c2.toArray) (.slice (some ⟨b,0,none⟩) (n+1) cap) (l.take i++d :: l.drop i)/\Kp (fun k=>k=b) W (W1.setRow b c2.toArray)/\Nb W (.slice (some ⟨b,0,none⟩) n cap) (.slice (some ⟨b,0,none⟩) (n+1) cap)):=by
  have hlen:(l.take i++d :: l.drop i).length=n+1:=by simp [hn];omega
  refine ⟨⟨by rw [au],.inr ⟨b,cap,c2.toArray,by rw [hlen],zx _,hb2,by rw [hlen];omega,hcm,by simp [hl2],?_⟩⟩,hk2,.inl rfl⟩;rw [hlen]
  simpa using hfin
 have hov:∀lb cb,(callFunc 80 #[.slice (some ⟨gv,0,none⟩) 1 1,.slice (some ⟨b,(i+1)*5,none⟩) lb cb]).run Tryz.prog W=.ok (.value (.bool false)) W:=fun lb cb=>by
  have hz:∀w,(Go.sizeOf 57).run Tryz.prog w=.ok 5 w:=fun w=>by
   obtain ⟨i0,hi0,_,h1,_⟩:=eG;simp [sizeOf,typeInfo,hi0,h1]
  rw [C1 Tryz.func80 (by kernel_rfl) (by kernel_rfl) (by kernel_rfl) (e:=Extern.SlicesOverlaps.overlaps #[46,46] #[4]) (by kernel_rfl),
   Lib.run_overlaps_apart W 46 4 57 zU 5 hz ⟨gv,0,none⟩ ⟨b,(i+1)*5,none⟩ 1 1 lb cb hne 57 57 5 (cap*5) (by simp [World.shape?,hg]) (by simp [World.shape?,hb,hcs]) (by omega) (aj hg) (aj hg)]
  rfl
 rw [hn];clear h hb hcm hcs htk hR hc1 hl1 hW1 hb1 hk1 hg1 hc2 hl2 hk2 hb2 hfin hg hn;have z1:¬((i:Int)=(n:Int)):=by omega
 have z2:IntKind.i64.wrap ((n:Int)+1)=(n:Int)+1:=by rw [zF];omega
 have z3:¬((cap:Int)<(n:Int)+1):=by omega
 have z4:IntKind.i64.wrap ((i:Int)+1)=(i:Int)+1:=by rw [zF];omega
 have z5:¬(cap=i+1):=by omega
 have z6:¬(cap=i):=by omega
 have z7:((i:Int)+1).toNat=i+1:=by omega
 have z8:(0:Int)<=(i:Int)+1:=by omega
 have z9:(i:Int)<=(n:Int):=by omega
 have y1:(i:Int)<=(n:Int)+1:=by omega
 have y2:((n:Int)+1).toNat=n+1:=by omega
 have y3:(0:Int)<=(n:Int)+1:=by omega
 have y4:(n:Int)+1<=(cap:Int):=by omega
 have y5:(i:Int)+1<=(n:Int)+1:=by omega
 go_enter D8,DZ
 go_wp2_with (simp only [hov])
 go_region_law (refine step_copy_r rfl _ _ 46 46 rfl _ _ (by simp [Act.eval,Act.put]) (by simp [Act.eval,Act.put]) (hcp1 _ _ _) ?_)
 go_wp2_with (at_builtin;refine wpList_copy_r _ rfl _ _ 46 46 rfl _ _ rfl rfl (hcp2 _ _) ?_)
 go_ret
 exact ⟨_,rfl,HX.out⟩
theorem gM {P:Program}(w:World) {ops:Array Oper}{rest:List Oper}{o:Oper}{a:Act}{Q:Exit->Act->World->Prop}(hgd:o.guard=none) (d s:Operand) (t t':TypeId)
  (ho:o.op=.call { callee:=.builtin .append,args:=#[d,s],argTypes:=#[t,t'] }) (v u:Value) (hd:a.eval d=v) (hs:a.eval s=u) {v':Value} {w':World}
  (hr:(Builtin.append_ #[t,t'] o.type #[v,u]).run P w=.ok v' w') (h:wpList P ops Q rest (a.put o.dst v') w'):wpList P ops Q (o :: rest) a w:=by
 refine DK hgd fun _ hK=>?_
 unfold Oper.wp execOp;simp only [ho,resolve,invoke,builtin,DL,DN,Cu,CO,Bj,Cg,hd,hs,hr];exact hK _ _ h
theorem lE (d:Dc) {gv:Nat}(h:Rd W (.slice (some ⟨b,0,none⟩) l.length cap) l) (hi:i<l.length) (hroom:¬l.length+1<=cap) (hg:W.heap[gv]?=some (.cells #[.int .u8 d.k,.string d.t,.int .i64 d.b,.int .i64 d.i,.bool d.e] 57 (0,0))) (hl:l.length<=1000000000) :
  Aa 48 #[.slice (some ⟨b,0,none⟩) l.length cap,.int .i64 i,.slice (some ⟨gv,0,none⟩) 1 1] W fun r w'=>∃v',r=.returned v'/\Rd w' v' (l.take i++d :: l.drop i)/\Kp (fun k=>k=b) W w'/\Nb W (.slice (some ⟨b,0,none⟩) l.length cap) v':=by
 obtain ⟨cur,hb,hcm,hcl,hcs,htk⟩:∃cur:List Value,W.heap[b]?=some (.cells cur.toArray 57 (0,0))/\cap<=maxLen/\l.length<=cap/\cur.length=cap*5/\cur.take (l.length*5)=dcs l:=by
  rcases h.2 with ⟨h1,_⟩|⟨g,cap',cur,h1,_,h3,h4,h5,h6,h7⟩
  ·cases h1
  ·cases h1;exact ⟨cur.toList,by simpa using h3,h5,h4,by simpa using h6,h7⟩
 obtain ⟨n,hn⟩:∃n,l.length=n:=⟨_,rfl⟩;rw [hn] at hi hroom hl htk hcl;obtain rfl:cap=n:=by omega
 have hcur:cur=dcs l:=by rw [<-htk,Ak (by omega)]
 subst hcur;clear htk hcl hroom;obtain ⟨i0,hi0,hz0,hz1,hz2⟩:=eG;have hA:(dcs (l.take i)).length=i*5:=by rw [au,zH,hn];congr 1;omega
 have hR:(dcs (l.drop i)).length=(cap-i)*5:=by rw [au,zN,hn]
 have hap:∀ty,(Builtin.append_ #[46,3] ty #[.slice (some ⟨b,0,none⟩) i cap,.int .i64 ((cap+1-i:Nat):Int)]).run Tryz.prog W=.ok (.slice (some ⟨W.heap.size,0,none⟩) (cap+1) (grownCap W (cap+1) cap 57))
    (W.drew.alloc (.cells ((dcs (l.take i)).toArray++Builtin.zeroCells (Value.agg #[.int .u8 0,.string ⟨#[]⟩,.int .i64 0,.int .i64 0,.bool false]).cells (cap+1-i)++Builtin.zeroCells (Value.agg #[.int .u8 0,.string ⟨#[]⟩,.int .i64 0,.int .i64 0,.bool false]).cells (grownCap W (cap+1) cap 57-(cap+1))) 57)):=fun ty=>by
  have h1:(Builtin.firstCells i0.size i (.slice (some ⟨b,0,none⟩) i cap)).run Tryz.prog W.drew=.ok (dcs (l.take i)).toArray W.drew:=by
   rw [hz1];refine run_firstCells_some (w:=W.drew) 5 i ⟨b,0,none⟩ i cap (dcs (l.take i)) hA (cZ (W:=W.drew) hb 0 _ (fun j v hj=>?_));rw [zC];rw [<-lX,Ag] at hj
   split at hj
   ·exact hj
   ·cases hj
  have:=Lib.run_append_grow_zeros (P:=Tryz.prog) W 46 3 ty 57 i0 _ .i64 .i64 zU Ac hi0 hz0 (some ⟨b,0,none⟩) i cap (dcs (l.take i)) h1 (cap+1-i) (by omega) (by rw [hz1];omega) (by omega) (by omega) (by rw [hz2];omega) (by rw [hz2];exact growslice_fits (by omega) (by omega));rw [show i+(cap+1-i)=cap+1 by omega] at this;exact this
 obtain ⟨C,hC⟩:∃C,grownCap W (cap+1) cap 57=C:=⟨_,rfl⟩;have hC1:cap+1<=C:=by rw [<-hC];exact grownCap_ge _ _ _ _
 have hC2:C<=maxLen:=by rw [<-hC];exact grownCap_le_maxLen _ _ _ _ (by unfold maxLen;omega)
 rw [hC] at hap;obtain ⟨Z,hZ⟩:∃Z:List Value,(Builtin.zeroCells (Value.agg #[.int .u8 0,.string ⟨#[]⟩,.int .i64 0,.int .i64 0,.bool false]).cells (cap+1-i)++Builtin.zeroCells (Value.agg #[.int .u8 0,.string ⟨#[]⟩,.int .i64 0,.int .i64 0,.bool false]).cells (C-(cap+1))).toList=Z:=⟨_,rfl⟩
 have hZl:Z.length=(C-i)*5:=by
  rw [<-hZ,AC,Array.size_append,size_zeroCells,size_zeroCells];show (cap+1-i)*5+(C-(cap+1))*5=_;omega
 have hZa:(dcs (l.take i)).toArray++Builtin.zeroCells (Value.agg #[.int .u8 0,.string ⟨#[]⟩,.int .i64 0,.int .i64 0,.bool false]).cells (cap+1-i)++Builtin.zeroCells (Value.agg #[.int .u8 0,.string ⟨#[]⟩,.int .i64 0,.int .i64 0,.bool false]).cells (C-(cap+1))=(dcs (l.take i)++Z).toArray:=by
  rw [Array.append_assoc]
  apply Bh.1
  rw [Array.toList_append,hZ]
 rw [hZa] at hap;clear hZ hZa;obtain ⟨N,hN⟩:∃N,W.heap.size=N:=⟨_,rfl⟩;obtain ⟨W0,hW0⟩:∃W0,W.drew.alloc (.cells (dcs (l.take i)++Z).toArray 57)=W0:=⟨_,rfl⟩;rw [hW0,hN] at hap;have hB0:Below W.heap.size W W0:=by rw [<-hW0];exact ((gt _ W).drew).alloc (eq _) _
 have hb0:W0.heap[N]?=some (.cells (dcs (l.take i)++Z).toArray 57 (0,0)):=by rw [<-hW0,<-hN];exact ag W.drew _
 have hgN:gv<N:=by rw [<-hN];exact ah hg
 have hbN:b<N:=by rw [<-hN];exact ah hb
 have hg0:=ab hg hB0;have hs0:=ab hb hB0
 have hcp1:∀ty dc,(Builtin.copy_ #[46,46] ty #[.slice (some ⟨N,i*5,none⟩) (cap+1-i) dc,.slice (some ⟨gv,0,none⟩) 1 1]).run Tryz.prog W0=.ok (goInt 1) (W0.setRow N ((dcs (l.take i)++Z).take (i*5)++dcs [d]++(dcs (l.take i)++Z).drop (i*5+5)).toArray):=fun ty dc=>by
  have hm:Nat.min 1 (cap+1-i)=1:=by show min _ _=_;omega
  have:=cu (P:=Tryz.prog) W0 46 46 ty 57 5 N (i*5) (cap+1-i) dc ⟨gv,0,none⟩ 1 1 (dcs (l.take i)++Z).toArray 57 (dcs [d]) zU fB hb0 (by rw [au,hm];rfl) (cZ (cur:=dcs [d]) (by rw [iX];exact hg0) 0 _ (fun j v hj=>by rw [zC];exact hj)) (by rw [au];simp [hA,hZl];omega) (aH _);rw [hm] at this
  simpa [au] using this
 obtain ⟨c1,hc1⟩:∃c1:List Value,(dcs (l.take i)++Z).take (i*5)++dcs [d]++(dcs (l.take i)++Z).drop (i*5+5)=c1:=⟨_,rfl⟩;rw [hc1] at hcp1;have hl1:c1.length=C*5:=by rw [<-hc1];simp only [zq,zH,zN,au,hA,hZl,List.length_cons,Ao,hn];omega
 obtain ⟨W1,hW1⟩:∃W1,W0.setRow N c1.toArray=W1:=⟨_,rfl⟩;rw [hW1] at hcp1;have hb1:W1.heap[N]?=some (.cells c1.toArray 57 (0,0)):=by rw [<-hW1];exact CA W0 N _ _ _ _ hb0
 have hk1:Kp (fun k=>k=b) W W1:=by rw [<-hW1];exact (Kp.of_below hB0).step (Kp.setRow W0 N c1.toArray) (fun k hk e=>by omega)
 have hs1:W1.heap[b]?=some (.cells (dcs l).toArray 57 (0,0)):=by rw [<-hW1,setRow_other W0 N b _ (by omega)];exact hs0
 have hcp2:∀ty dc sc,(Builtin.copy_ #[46,46] ty #[.slice (some ⟨N,(i+1)*5,none⟩) (cap-i) dc,.slice (some ⟨b,i*5,none⟩) (cap-i) sc]).run Tryz.prog W1.drew=.ok (goInt ((cap-i:Nat):Int)) (W1.drew.setRow N (c1.take ((i+1)*5)++dcs (l.drop i)++c1.drop ((i+1)*5+(dcs (l.drop i)).length)).toArray):=fun ty dc sc=>by
  have hm:Nat.min (cap-i) (cap-i)=cap-i:=by show min _ _=_;omega
  have:=cu (P:=Tryz.prog) W1.drew 46 46 ty 57 5 N ((i+1)*5) (cap-i) dc ⟨b,i*5,none⟩ (cap-i) sc c1.toArray 57 (dcs (l.drop i)) zU fB hb1 (by rw [hR,hm]) (cZ (W:=W1.drew) hs1 (i*5) _ (fun j v hj=>by rw [<-iY,Aj] at hj;exact hj)) (by rw [hR];simp;omega) (aH _);rw [hm] at this
  simpa using this
 obtain ⟨c2,hc2⟩:∃c2:List Value,c1.take ((i+1)*5)++dcs (l.drop i)++c1.drop ((i+1)*5+(dcs (l.drop i)).length)=c2:=⟨_,rfl⟩;rw [hc2] at hcp2
 have hfin:c2=dcs (l.take i++d :: l.drop i)++Z.drop (5+(dcs (l.drop i)).length):=by
  have e3:dcs (l.take i++d :: l.drop i)=dcs (l.take i)++dcs [d]++dcs (l.drop i):=by rw [cz,show d :: l.drop i=[d]++l.drop i from rfl,cz,zJ]
  have:=kF (dcs (l.take i)) Z (dcs [d]) (dcs (l.drop i)) (i*5) 5 hA (by rw [au];rfl) (by rw [hR,hZl];omega);rw [hc1,show i*5+5=(i+1)*5 by omega,hc2] at this;rw [this,e3]
 have hl2:c2.length=C*5:=by rw [<-hc2];simp only [zq,zH,zN,hR,hl1];omega
 have hk2:Kp (fun k=>k=b) W (W1.drew.setRow N c2.toArray):=(hk1.step (Kp.of_below (S:=fun _=>False) ((gt _ W1).drew)) (fun _ _ h=>h.elim)).step (Kp.setRow W1.drew N _) (fun k hk e=>by omega);have hb2:(W1.drew.setRow N c2.toArray).heap[N]?=some (.cells c2.toArray 57 (0,0)):=CA W1.drew N _ _ _ _ hb1
 have HX:Hid (Rd (W1.drew.setRow N c2.toArray) (.slice (some ⟨N,0,none⟩) (cap+1) C) (l.take i++d :: l.drop i)/\Kp (fun k=>k=b) W (W1.drew.setRow N c2.toArray)/\Nb W (.slice (some ⟨b,0,none⟩) cap cap) (.slice (some ⟨N,0,none⟩) (cap+1) C)):=by
  have hlen:(l.take i++d :: l.drop i).length=cap+1:=by simp [hn];omega
  refine ⟨⟨by rw [au],.inr ⟨N,C,c2.toArray,by rw [hlen],zx _,hb2,by rw [hlen];omega,hC2,by simp [hl2],?_⟩⟩,hk2,.inr ⟨N,rfl,by omega⟩⟩;rw [hfin,C6 (by rw [au])]
 rw [hn];clear h hb hcm hcs hR hc1 hl1 hW1 hb1 hk1 hc2 hl2 hk2 hb2 hfin hg hn hC hi0 hz0 hz1 hz2 hA hZl hN hW0 hB0 hb0 hg0 hs0 hs1 hC2 hgN hbN;have z1:¬((i:Int)=(cap:Int)):=by omega
 have z2:IntKind.i64.wrap ((cap:Int)+1)=(cap:Int)+1:=by rw [zF];omega
 have z3:(cap:Int)<(cap:Int)+1:=by omega
 have z4:IntKind.i64.wrap ((i:Int)+1)=(i:Int)+1:=by rw [zF];omega
 have z5:¬(C=i+1):=by omega
 have z6:¬(cap=i):=by omega
 have z7:((i:Int)+1).toNat=i+1:=by omega
 have z8:(0:Int)<=(i:Int)+1:=by omega
 have z9:(i:Int)<=(cap:Int):=by omega
 have y1:IntKind.i64.wrap ((cap:Int)+1-(i:Int))=((cap+1-i:Nat):Int):=by rw [zF];omega
 have y2:¬(C=i):=by omega
 have y3:(i:Int)<=(cap:Int)+1:=by omega
 have y5:(i:Int)+1<=(cap:Int)+1:=by omega
 go_enter D8,DZ
 go_wp2_with (first|(at_builtin;refine gM _ rfl _ _ 46 3 rfl _ _ rfl rfl (hap _) ?_)|(at_builtin;refine wpList_copy_r _ rfl _ _ 46 46 rfl _ _ rfl rfl (hcp1 _ _) ?_))
 go_region_law (refine step_copy_r rfl _ _ 46 46 rfl _ _ (by simp [Act.eval,Act.put]) (by simp [Act.eval,Act.put]) (hcp2 _ _ _) ?_)
 go_wp2_with fail
 go_ret
 exact ⟨_,rfl,HX.out⟩
theorem mV (d:Dc) {gv:Nat}(h:Rd W v l) (hi:i<=l.length) (hg:W.heap[gv]?=some (.cells #[.int .u8 d.k,.string d.t,.int .i64 d.b,.int .i64 d.i,.bool d.e] 57 (0,0))) (hne:v.ownBlock≠some gv) (hl:l.length<=1000000000) :
  Aa 48 #[v,.int .i64 i,.slice (some ⟨gv,0,none⟩) 1 1] W fun r w'=>∃v',r=.returned v'/\Rd w' v' (l.take i++d :: l.drop i)/\Kp (fun k=>v.ownBlock=some k) W w'/\Nb W v v':=by
 by_cases h1:i=l.length
 ·subst h1;rw [Aw,A5];exact mU d h hg hl
 ·have h2:i<l.length:=by omega
  rcases h.2 with ⟨h3,h4⟩|⟨b,cap,cur,rfl,_⟩
  ·omega
  ·have hne':gv≠b:=fun e=>hne (by rw [e];rfl)
   by_cases h5:l.length+1<=cap
   ·refine (lD d h h2 h5 hg hne' hl).mono ?_;rintro r w' ⟨v',a1,a2,a3,a4⟩;exact ⟨v',a1,a2,a3.sub (fun k e=>by rw [e];rfl),a4⟩
   ·refine (lE d h h2 h5 hg hl).mono ?_;rintro r w' ⟨v',a1,a2,a3,a4⟩;exact ⟨v',a1,a2,a3.sub (fun k e=>by rw [e];rfl),a4⟩
end Go.Proofs.YtpdlohfdjiaegaaGreatDoor
