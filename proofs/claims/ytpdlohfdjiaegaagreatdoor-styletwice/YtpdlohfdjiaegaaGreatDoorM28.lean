import Derived.Test.YtpdlohfdjiaegaaGreatDoorM27
set_option linter.unusedVariables false
set_option linter.unusedSimpArgs false
set_option maxHeartbeats 4000000
namespace Go.Proofs.YtpdlohfdjiaegaaGreatDoor
open Go.RowKit
open Lw (Dc bE rt frm dep rtT rtN dcs aD bk)
variable {w w':World}{g:Nat}{st:Sy}{v:Value}
theorem nL {S:Nat->Prop}{W:World}{vn:Value}{p:Option Addr}{n0 cap:Nat}(hv:SV W g st vn (.slice p n0 cap)) (hs:S g) (h1:∀k,vn.ownBlock=some k->S k) (h2:∀k,(Value.slice p n0 cap).ownBlock=some k->S k) (hl:st.ws.length<=1000000000) (d:Dc) {i:Nat}(hi:i<=st.ws.length) {V:World}(hb:Below W.heap.size W V) :
  Da 48 #[.slice p n0 cap,.int .i64 i,.slice (some ⟨V.heap.size,0,none⟩) 1 1] (V.alloc (.cells #[.int .u8 d.k,.string d.t,.int .i64 d.b,.int .i64 d.i,.bool d.e] 57)) fun r w'=>∃p' n' c',r=.returned (.slice p' n' c')/\(w'.cell? ⟨g,2,none⟩=some (.slice p n0 cap)/\w'.frozen? ⟨g,2,none⟩=false)/\Mv S g W (w'.setCell ⟨g,2,none⟩ (.slice p' n' c')) { st with ws:=st.ws.take i++d :: st.ws.drop i }:=by
 have hb2:Below W.heap.size W (V.alloc (.cells #[.int .u8 d.k,.string d.t,.int .i64 d.b,.int .i64 d.i,.bool d.e] 57)):=hb.alloc hb.size _;have hq:=hv.below hb2;have hne:(Value.slice p n0 cap).ownBlock≠some V.heap.size:=fun e=>by have:=eJ (hv.below hb).rd _ e;omega
 refine (pi d hq.rd hi (am V _) hne hl).mono ?_;rintro r w' ⟨v',rfl,a1,a2,a3⟩;obtain ⟨p',c',e,_⟩:=aS a1;obtain ⟨c1,c2⟩:=hv.ws hb2 a2 a1 a3;subst e;exact ⟨_,_,_,rfl,c1,c2.mv hv hs h1 h2⟩
theorem iG {S:Nat->Prop}{W:World}(h:SS S W g st) (hl:st.ws.length<=1000000000) :
  Da 26 #[spg g] W fun r w'=>r=.returned (.tuple #[])/\Mv S g W w' st.endl:=by
 obtain ⟨vn,vw,hv,s1,s2⟩:=h.ex;have hsg:=h.sg;obtain ⟨p,cap,e,hc1,hc2⟩:=aS hv.rd;subst e;obtain ⟨c0,c1,c2,c3,c4,c5,c6,c7⟩:=hv.sb.cells
 by_cases he:st.en=true
 ·have HA:Hid (Da 46 #[spg g,.func (.func 47) #[] #[]] W fun r w'=>r=.returned (.bool (st.ws.any aX))/\Db W w'):=tP hv hl
  by_cases ha:st.ws.any aX=true
  ·have e9:st.endl=st:=by unfold Sy.endl;rw [if_neg (by rw [ha];simp)]
   have HM:Hid (∀V,Db W V->Mv S g W V st.endl):=fun V hb=>by rw [e9];exact Mv.quiet h hb
   rw [ha] at HA;rw [he] at c6;clear h hv s1 s2 e9
   go_enter Tryz.func26,Tryz.ntmps26
   go_wp2_with (go_at_call 46;refine HA.out.mono ?_;rintro r w1 ⟨rfl,hb1⟩;have HX:=show Hid (Mv S g W w1 st.endl) from HM.out _ hb1;clear hb1)
   go_end0
   exact ⟨rfl,HX.out⟩
  ·have ha':st.ws.any aX=false:=by simpa using ha
   have e9:st.endl={ st with ws:=st.ws.take 0++dH :: st.ws.drop 0 }:=by unfold Sy.endl;rw [if_pos ⟨he,ha'⟩];rfl
   have HC:Hid (∀V,Db W V->V.cell? ⟨g,2,none⟩=some (.slice p st.ws.length cap)/\g<V.heap.size):=fun V hb=>⟨(hv.below hb).sb.cells.2.2.1,(hv.below hb).sb.lt⟩
   have HI:Hid (∀V,Db W V->Da 48 #[.slice p st.ws.length cap,.int .i64 0,.slice (some ⟨V.heap.size,0,none⟩) 1 1] (V.alloc (.cells #[.int .u8 4,.string ⟨#[]⟩,.int .i64 0,.int .i64 0,.bool false] 57)) fun r w'=>∃p' n' c',r=.returned (.slice p' n' c')/\(w'.cell? ⟨g,2,none⟩=some (.slice p st.ws.length cap)/\w'.frozen? ⟨g,2,none⟩=false)/\Mv S g W (w'.setCell ⟨g,2,none⟩ (.slice p' n' c')) st.endl):=fun V hb=>by rw [e9];exact nL hv hsg s1 s2 hl dH (i:=0) (Nat.zero_le _) hb
   rw [ha'] at HA;rw [he] at c6;clear h hv s1 s2 e9 ha ha' he
   go_enter Tryz.func26,Tryz.ntmps26
   go_wp2_with (first|(go_at_call 46;refine HA.out.mono ?_;rintro r w1 ⟨rfl,hb1⟩;have HB:=show Hid (Below W.heap.size W w1) from hb1;obtain ⟨x1,x2⟩:=HC.out _ hb1;clear hb1)|(go_at_call 48;refine (HI.out _ HB.out).mono ?_;rintro r w3 ⟨p3,n3,c3,rfl,⟨y2,y3⟩,y4⟩;have HX:=hid y4;clear y4))
   go_end0
   exact ⟨rfl,HX.out⟩
 ·have he':st.en=false:=by simpa using he
  have e9:st.endl=st:=by unfold Sy.endl;rw [if_neg (by rw [he'];simp)]
  have HM:Hid (Mv S g W W st.endl):=by rw [e9];exact Mv.refl h
  rw [he'] at c6;clear h hv s1 s2 e9 he he'
  go_enter Tryz.func26,Tryz.ntmps26
  go_wp2_with fail
  go_end0
  exact ⟨rfl,HM.out⟩
theorem bR {B:Nat}{W:World}(h:Below B w W) (m:Nat):Below B w (W.drewN m):=⟨by rw [World.drewN];exact h.os,by rw [World.drewN];exact h.tape,by rw [World.drewN];exact h.output,by rw [World.drewN];exact h.size,by rw [World.drewN];exact h.block⟩
theorem lD {S:Nat->Prop}{W:World}(h:SS S W g st) (hl:st.ws.length<=1000000000) (hm:∀m,st.mr=some m->m<=st.ws.length) (f:Int) :
  Da 71 #[spg g,.int .i64 f] W fun r w'=>r=.returned (.tuple #[])/\Mv S g W w' (st.emp f):=by
 obtain ⟨vn,vw,hv,s1,s2⟩:=h.ex;have hsg:=h.sg;obtain ⟨p,cap,e,hc1,hc2⟩:=aS hv.rd;subst e;obtain ⟨c0,c1,c2,c3,c4,c5,c6,c7⟩:=hv.sb.cells;have hgl:=hv.sb.lt;have quiet:st.emp f=st->∀V,Below W.heap.size W V->Mv S g W V (st.emp f):=fun e V hb=>by rw [e];exact Mv.quiet h hb
 cases hmr:st.mr with
 |none=>
  have HM:Hid (∀V,Db W V->Mv S g W V (st.emp f)):=quiet (by unfold Sy.emp;rw [hmr]);rw [hmr] at c3 c4;clear quiet h hv s1 s2;have HB:Hid (∀m,Db W (W.drewN m)):=fun m=>bR (Below.refl _ _) m
  go_enter Tryz.func71,Tryz.ntmps71
  go_wp2_with fail
  go_quiet (fail)
  go_wp2_with fail
  refine bodyPost_ret (v:=.tuple #[]) (by simp [results,Tryz.f71,go_sem]) rfl ?_;exact ⟨rfl,HM.out _ (HB.out _)⟩
 |some m=>
  have hml:=hm m hmr;rw [hmr] at c3 c4;simp only [Option.isSome_some,Option.getD_some] at c3 c4;have HB:Hid (∀m,Db W (W.drewN m)):=fun m=>bR (Below.refl _ _) m
  by_cases hf:f<2
  ·have HM:Hid (∀V,Db W V->Mv S g W V (st.emp f)):=quiet (by unfold Sy.emp;rw [hmr];simp only;rw [if_pos (.inl hf)]);clear quiet h hv s1 s2
   go_enter Tryz.func71,Tryz.ntmps71
   go_wp2_with fail
   go_quiet (fail)
   go_wp2_with fail
   refine bodyPost_ret (v:=.tuple #[]) (by simp [results,Tryz.f71,go_sem]) rfl ?_;exact ⟨rfl,HM.out _ (HB.out _)⟩
  ·have qf:decide (f<2)=false:=decide_eq_false hf;cases hw:st.wr with
   |false=>
    have HM:Hid (∀V,Db W V->Mv S g W V (st.emp f)):=quiet (by unfold Sy.emp;rw [hmr];simp only;rw [if_pos (.inr (.inl hw))]);rw [hw] at c5;clear quiet h hv s1 s2 c0 c1 c6 c7 hm hmr hml hw hl hsg hc1 hc2
    go_enter Tryz.func71,Tryz.ntmps71
    go_wp2_with fail
    go_quiet (fail)
    go_wp2_with fail
    refine bodyPost_ret (v:=.tuple #[]) (by simp [results,Tryz.f71,go_sem]) rfl ?_;exact ⟨rfl,HM.out _ (HB.out _)⟩
   |true=>
    rw [hw] at c5
    have HK:Hid (∀V,Db W V->(V.cell? ⟨g,3,none⟩=some (.bool true)/\V.cell? ⟨g,5,none⟩=some (.bool true)/\V.cell? ⟨g,2,none⟩=some (.slice p st.ws.length cap)/\V.cell? ⟨g,4,none⟩=some (.int .i64 m)/\Db W V)):=fun V hb=>by
     have hgs:=hgl;exact ⟨(hb.cell hgs).trans c3,(hb.cell hgs).trans c5,(hb.cell hgs).trans c2,(hb.cell hgs).trans c4,hb⟩
    have HC:Hid (∀V,Db W V->Da 79 #[.slice p m cap,.func (.func 123) #[] #[]] V fun r w'=>r=.returned (.bool ((st.ws.take m).any aK))/\Db V w'):=fun V hb=>by
     have hl2:(st.ws.take m).length=m:=by rw [List.length_take];omega
     have:=wu p (st.ws.take m) cap V ((mZ (hv.below hb).rd).take m) (by omega);rw [hl2] at this;exact this
    have q5:(0:Int)<=(m:Int):=by omega
    have q6:(m:Int)<=(cap:Int):=by omega
    have HM:Hid ((st.ws.take m).any aK=true->∀V,Db W V->Mv S g W V (st.emp f)):=fun ha=>quiet (by unfold Sy.emp;rw [hmr];simp only;rw [if_pos (.inr (.inr ha))])
    have HI:Hid ((st.ws.take m).any aK=false->∀V,Db W V->Da 48 #[.slice p st.ws.length cap,.int .i64 m,.slice (some ⟨V.heap.size,0,none⟩) 1 1] (V.alloc (.cells #[.int .u8 5,.string ⟨#[]⟩,.int .i64 0,.int .i64 0,.bool false] 57)) fun r w'=>∃p' n' c',r=.returned (.slice p' n' c')/\(w'.cell? ⟨g,2,none⟩=some (.slice p st.ws.length cap)/\w'.frozen? ⟨g,2,none⟩=false)/\Mv S g W (w'.setCell ⟨g,2,none⟩ (.slice p' n' c')) (st.emp f)):=fun ha V hb=>by
     have e9:st.emp f={ st with ws:=st.ws.take m++dE :: st.ws.drop m }:=by
      unfold Sy.emp;rw [hmr];simp only;rw [if_neg (by rintro (a|a|a);exact hf a;rw [hw] at a;cases a;rw [ha] at a;cases a)]
     rw [e9];exact nL hv hsg s1 s2 hl dE (i:=m) hml hb
    generalize (st.ws.take m).any aK=bg at *
    generalize st.ws.length=n0 at *
    clear quiet h hv s1 s2 c0 c1 c6 c7 hm hmr hw hsg hc2 c2 c3 c4 c5 hl hml hc1
    go_enter Tryz.func71,Tryz.ntmps71
    go_wp2_with fail
    go_region_held3 (fun w'=>w'.cell? ⟨g,3,none⟩=some (.bool true)/\w'.cell? ⟨g,5,none⟩=some (.bool true)/\w'.cell? ⟨g,2,none⟩=some (.slice p n0 cap)/\w'.cell? ⟨g,4,none⟩=some (.int .i64 m)/\Below W.heap.size W w') (first|(exact HK.out _ (by assumption))|(exact HK.out _ (Below.refl _ _).drew)|go_keep) (first|(go_at_call 79;refine (HC.out _ (by first|assumption|exact (Below.refl _ _).drew)).mono ?_;rintro e w1 ⟨rfl,hb1⟩;have hbW:=(by first|exact (Below.refl W.heap.size W).drew.trans (hb1.mono (Nat.le_refl _))|exact (by assumption:Below W.heap.size W _).trans (hb1.mono (Below.size (by assumption))):Below W.heap.size W w1);clear hb1))
    all_goals (
     have HBW:Hid (Db W w1):=hbW;cases bg with
     |true=>
      have HM2:Hid (Mv S g W w1 (st.emp f)):=HM.out rfl _ hbW;clear HM HI
      go_wp2_with fail
      refine bodyPost_ret (v:=.tuple #[]) (by simp [results,Tryz.f71,go_sem]) rfl ?_;exact ⟨rfl,HM2.out⟩
     |false=>
      obtain ⟨x1,x2,x3,x4,_⟩:=HK.out _ hbW;have hg1:g<w1.heap.size:=Nat.lt_of_lt_of_le hgl hbW.size;have HBD:Hid (Db W w1.drew):=hbW.drew;have HI2:Hid (∀V,Db W V->Da 48 #[.slice p n0 cap,.int .i64 m,.slice (some ⟨V.heap.size,0,none⟩) 1 1] (V.alloc (.cells #[.int .u8 5,.string ⟨#[]⟩,.int .i64 0,.int .i64 0,.bool false] 57)).drew fun r w'=>∃p' n' c',r=.returned (.slice p' n' c')/\(w'.cell? ⟨g,2,none⟩=some (.slice p n0 cap)/\w'.frozen? ⟨g,2,none⟩=false)/\Mv S g W (w'.setCell ⟨g,2,none⟩ (.slice p' n' c')) (st.emp f)):=fun V hb=>HI.out rfl V.drew hb.drew
      clear hbW HM HI
      go_wp2_with fail
      go_region_law (first|(go_simp;go_at_call 48;refine (HI2.out w1 HBW.out).mono ?_;rintro r w3 ⟨p3,n3,c3,rfl,⟨y2,y3⟩,y4⟩;have HX:=hid y4;clear y4))
      all_goals (
       go_wp2_with fail
       go_end0
       exact ⟨rfl,HX.out⟩))
structure HW (S:World->Prop) where
 W:World
 h:S W
theorem bC {P:Program}{S:World->Prop}{id:Nat}{Q:Exit->Act->World->Prop}{a:Act}{w:World}{l:List Oper}(hm:P.follows .mixedOrders=true) (hB:Region.lexB .any l.toArray=true) (hC:S w.drew)
  (h:wpQuiet P l.toArray (fun w'=>∃x:HW S,w'=x.W) (fun a'=>∀w',(∃x:HW S,w'=x.W)->Q .normal a' w') l a):(Code.region id l.toArray true).wp P Q a w:=
 wp_region_quiet (C:=fun w'=>∃x:HW S,w'=x.W) hm hB ⟨⟨w.drew,hC⟩,rfl⟩ (by simpa using h)
theorem Calls.quiet_in {P:Program}{S:World->Prop}{f:FuncId}{args:Array Value}(x:HW S) (h:Calls P f args x.W fun e w'=>e=.returned v/\Below x.W.heap.size x.W w') (hS:∀W W',S W->Below W.heap.size W W'->S W') :
  Calls P f args x.W fun e w''=>e=.returned v/\∃y:HW S,w''=y.W:=
 h.mono fun e w' ⟨he,hb⟩=>⟨he,⟨w',hS _ _ x.h hb⟩,rfl⟩
theorem aY {p:Addr}(h:w.cell? p=some v) (hb:Below w.heap.size w w'):w'.cell? p=some v:=(hb.cell (World.block_lt_of_cell? w p h)).trans h
def SG (V W:World):Prop:=Below V.heap.size V W
theorem SG.keep {V W W':World}(h:SG V W) (hb:Below W.heap.size W W'):SG V W':=Below.trans h (hb.mono (Below.size h))
theorem A2 (n:Nd) (k:Int) (W:World):Da 179 #[.agg #[.int .u8 n.k,.int .i64 n.b,.bool n.s],.int .u8 k] W fun e w'=>e=.returned (.bool (n.is k))/\Below W.heap.size W w':=by
 have HB:Hid (∀o,Db W (W.alloc o)):=fun o=>(Below.refl _ _).alloc (Nat.le_refl _) _
 by_cases h33:k=33
 ·subst h33
  have HQ:Hid (n.is 33=(n.k == 5 && (n.b:Int) == 0)):=by
   show _=_
   unfold Nd.is;rw [if_pos rfl]
   by_cases a:n.k=5 <;> by_cases b:n.b=0 <;> simp [a,b]
  go_enter Tryz.func179,Tryz.ntmps179
  go_wp2_with fail
  all_goals (go_ret;rw [HQ.out];refine ⟨?_,HB.out _⟩;simp_all)
 ·have q:(k == 33)=false:=by simpa using h33
  have HQ:Hid (n.is k=(n.k == k)):=by
   show _=_
   unfold Nd.is;rw [if_neg h33]
   by_cases a:n.k=k <;> simp [a]
  clear h33
  go_enter Tryz.func179,Tryz.ntmps179
  go_wp2_with fail
  go_ret
  rw [HQ.out];exact ⟨rfl,HB.out _⟩
def Lk (w:World) (b:Nat) (l:List Int):Prop:=∀j d,l[j]?=some d->w.cell? ⟨b,j,none⟩=some (.int .u8 d)
theorem Lk.below {b:Nat}{l:List Int}(h:Lk w b l) (hb:Below w.heap.size w w'):Lk w' b l:=fun j d hj=>(hb.cell (World.block_lt_of_cell? _ _ (h j d hj))).trans (h j d hj)
theorem yG (n:Nd) (b:Nat) (l:List Int) (cap:Nat) (W:World) (h:Lk W b l) (hl:l.length<=1000000000) :
  Da 205 #[.slice (some ⟨b,0,none⟩) l.length cap,.func (.func 179) #[.agg #[.int .u8 n.k,.int .i64 n.b,.bool n.s]] #[]] W fun r w'=>(∃z:Int,r=.returned (.int .i64 z)/\(decide (0<=z)=l.any n.is))/\Below W.heap.size W w':=by
 have H:Hid (Lk W b l):=h;clear h;have HP:Hid (∀(k:Int) (V:World),Da 179 #[.agg #[.int .u8 n.k,.int .i64 n.b,.bool n.s],.int .u8 k] V fun e w'=>e=.returned (.bool (n.is k))/\Db V w'):=A2 n
 go_enter Tryz.func205,Tryz.ntmps205
 go_wp2_with fail
 go_loopw [5,8] (fun _ i wr=>∃k:Nat,k<=l.length/\i=.int .i64 k/\Hid ((l.take k).any n.is=false)/\Hid (Below W.heap.size W wr)) (fun _ i _=>l.length-(intOf i).toNat)
 case atStart=>exact ⟨0,Nat.zero_le _,rfl,by show _=_;simp,Below.refl _ _⟩
 case round=>
  obtain ⟨k,hk,rfl,HI,HB⟩:=hrel
  by_cases hlt:k<l.length
  ·have q1:(k:Int)<l.length:=by omega
   have q0:(0:Int)<=k:=by omega
   obtain ⟨x,hx⟩:∃x,l[k]?=some x:=⟨_,List.getElem?_eq_getElem hlt⟩;have c0:=(H.out.below HB.out) k x hx;have HS:Hid ((l.take (k+1)).any n.is=n.is x):=gT n.is l k x hx HI.out;have HT:Hid ((l.take (k+1)).any n.is=true->l.any n.is=true):=gS n.is l _;clear hx
   by_cases he:n.is x=true
   ·go_wp2_with (go_at_call 179;refine (HP.out x _).mono ?_;rintro e w1 ⟨rfl,hb1⟩;rw [he];have HC:Hid (Db W w1):=HB.out.trans (hb1.mono HB.out.size);clear hb1)
    go_ret
    exact ⟨⟨_,rfl,by rw [HT.out (HS.out.trans he)];simp⟩,HC.out⟩
   ·have he':n.is x=false:=by simpa using he
    clear he
    go_wp2_with (go_at_call 179;refine (HP.out x _).mono ?_;rintro e w1 ⟨rfl,hb1⟩;rw [he'];have HC:Hid (Db W w1):=HB.out.trans (hb1.mono HB.out.size);clear hb1)
    exact ⟨⟨k+1,hlt,by go_num,HS.out.trans he',HC⟩,by simp [intOf];omega⟩
  ·obtain rfl:k=l.length:=by omega
   have q1:¬((l.length:Int)<l.length):=by omega
   go_wp2_with fail
   go_ret
   refine ⟨⟨_,rfl,?_⟩,HB.out⟩;have:=HI.out;rw [List.take_length] at this;rw [this];rfl
theorem za (n:Nd) (b:Nat) (l:List Int) (cap:Nat) (W:World) (h:Lk W b l) (hl:l.length<=1000000000) :
  Da 178 #[.slice (some ⟨b,0,none⟩) l.length cap,.func (.func 179) #[.agg #[.int .u8 n.k,.int .i64 n.b,.bool n.s]] #[]] W fun r w'=>r=.returned (.bool (l.any n.is))/\Below W.heap.size W w':=by
 have H:Hid (Da 205 #[.slice (some ⟨b,0,none⟩) l.length cap,.func (.func 179) #[.agg #[.int .u8 n.k,.int .i64 n.b,.bool n.s]] #[]] W fun r w'=>(∃z:Int,r=.returned (.int .i64 z)/\(decide (0<=z)=l.any n.is))/\Db W w'):=yG n b l cap W h hl;clear h
 generalize l.any n.is=bb at *
 go_enter Tryz.func178,Tryz.ntmps178
 go_wp2_with (go_at_call 205;refine H.out.mono ?_;rintro r w1 ⟨⟨z,rfl,hz⟩,hb1⟩;have HB:Hid (Db W w1):=hb1;clear hb1;subst hz)
 go_ret
 exact ⟨by simp,HB.out⟩
theorem s9 (n0 n1 n2 n3 n4 n5:Int) (t:ByteArray) (fa fb:Nat) (n:Nd) (tx:ByteArray) (W:World) :
  Da 121 #[.agg #[.int .u8 n0,.int .u8 n1,.int .u8 n2,.int .u8 n3,.int .u8 n4,.int .u8 n5,.string t,.func (.func fa) #[] #[],.func (.func fb) #[] #[]],.agg #[.int .u8 n.k,.int .i64 n.b,.bool n.s],.string tx] W fun e w'=>e=.returned (.bool ((t.toList == [] || t.toList == tx.toList) && [n0,n1,n2,n3,n4,n5].any n.is))/\Below W.heap.size W w':=by
 obtain ⟨V,hV⟩:∃V,(W.alloc (.cells #[.int .u8 n0,.int .u8 n1,.int .u8 n2,.int .u8 n3,.int .u8 n4,.int .u8 n5,.string t,.func (.func fa) #[] #[],.func (.func fb) #[] #[]] 132)).alloc (.cells #[.int .u8 n.k,.int .i64 n.b,.bool n.s] 121)=V:=⟨_,rfl⟩;have hs:(W.alloc (.cells #[.int .u8 n0,.int .u8 n1,.int .u8 n2,.int .u8 n3,.int .u8 n4,.int .u8 n5,.string t,.func (.func fa) #[] #[],.func (.func fb) #[] #[]] 132)).heap.size=W.heap.size+1:=by show (W.heap.push _).size=_;simp
 have hr:V.heap[W.heap.size]?=some (.cells #[.int .u8 n0,.int .u8 n1,.int .u8 n2,.int .u8 n3,.int .u8 n4,.int .u8 n5,.string t,.func (.func fa) #[] #[],.func (.func fb) #[] #[]] 132 (0,0)):=by rw [<-hV];exact ay (am W _) _
 have hd:V.heap[W.heap.size+1]?=some (.cells #[.int .u8 n.k,.int .i64 n.b,.bool n.s] 121 (0,0)):=by rw [<-hV,<-hs];exact am _ _
 have hB:Below W.heap.size W V:=by rw [<-hV];exact ((Below.refl _ _).alloc (Nat.le_refl _) _).alloc (by omega) _
 have HV:Hid ((W.alloc (.cells #[.int .u8 n0,.int .u8 n1,.int .u8 n2,.int .u8 n3,.int .u8 n4,.int .u8 n5,.string t,.func (.func fa) #[] #[],.func (.func fb) #[] #[]] 132)).alloc (.cells #[.int .u8 n.k,.int .i64 n.b,.bool n.s] 121)=V):=hV
 have HLk:Lk V W.heap.size [n0,n1,n2,n3,n4,n5]:=fun j d hj=>by
  match j,hj with
  |0,hj=>cases hj;exact aa hr rfl
  |1,hj=>cases hj;exact aa hr rfl
  |2,hj=>cases hj;exact aa hr rfl
  |3,hj=>cases hj;exact aa hr rfl
  |4,hj=>cases hj;exact aa hr rfl
  |5,hj=>cases hj;exact aa hr rfl
  |j+6,hj=>simp at hj
 have HC:Hid (∀X,Below V.heap.size V X->Da 178 #[.slice (some ⟨W.heap.size,0,none⟩) 6 6,.func (.func 179) #[.agg #[.int .u8 n.k,.int .i64 n.b,.bool n.s]] #[]] X fun r w'=>r=.returned (.bool ([n0,n1,n2,n3,n4,n5].any n.is))/\Below X.heap.size X w'):=fun X hX=>za n W.heap.size [n0,n1,n2,n3,n4,n5] 6 X (HLk.below hX) (by simp)
 have HF:Hid (∀X,Below V.heap.size V X->Below W.heap.size W X):=fun X hX=>hB.trans (hX.mono hB.size)
 have m6:V.cell? ⟨W.heap.size,6,none⟩=some (.string t):=aa hr rfl;have m0:V.cell? ⟨W.heap.size+1,0,none⟩=some (.int .u8 n.k):=aa hd rfl;have m1:V.cell? ⟨W.heap.size+1,1,none⟩=some (.int .i64 n.b):=aa hd rfl;have m2:V.cell? ⟨W.heap.size+1,2,none⟩=some (.bool n.s):=aa hd rfl;have HK:Hid (∀X,Below V.heap.size V X->(X.cell? ⟨W.heap.size,6,none⟩=some (.string t)/\X.cell? ⟨W.heap.size+1,0,none⟩=some (.int .u8 n.k)/\X.cell? ⟨W.heap.size+1,1,none⟩=some (.int .i64 n.b)/\X.cell? ⟨W.heap.size+1,2,none⟩=some (.bool n.s)/\Below V.heap.size V X)):=fun X hX=>⟨(hX.cell (ap hr)).trans m6,(hX.cell (ap hd)).trans m0,(hX.cell (ap hd)).trans m1,(hX.cell (ap hd)).trans m2,hX⟩
 have HD:Hid (∀m,Below V.heap.size V (V.drewN m)):=fun m=>bR (Below.refl _ _) m
 clear hr hd hB HLk hs hV
 generalize [n0,n1,n2,n3,n4,n5].any n.is=bb at *
 by_cases hq:(t.toList == [] || t.toList == tx.toList)=true
 ·rw [hq,Bool.true_and]
  by_cases he:(t.toList == [])=true
  ·have p0:t.toList.isEmpty=true:=by simpa using he
   have hc6:∀x:HW (SG V),x.W.cell? ⟨W.heap.size,6,none⟩=some (.string t):=fun x=>aY m6 x.h
   have hc0:∀x:HW (SG V),x.W.cell? ⟨W.heap.size+1,0,none⟩=some (.int .u8 n.k):=fun x=>aY m0 x.h
   have hc1:∀x:HW (SG V),x.W.cell? ⟨W.heap.size+1,1,none⟩=some (.int .i64 n.b):=fun x=>aY m1 x.h
   have hc2:∀x:HW (SG V),x.W.cell? ⟨W.heap.size+1,2,none⟩=some (.bool n.s):=fun x=>aY m2 x.h
   have hne:Nonempty (HW (SG V)):=⟨⟨V.drew,(Below.refl _ _).drew⟩⟩;have hex:∀x:HW (SG V),∃y:HW (SG V),x.W=y.W:=fun x=>⟨x,rfl⟩
   have KT:Hid (∀x:HW (SG V),Da 178 #[.slice (some ⟨W.heap.size,0,none⟩) 6 6,.func (.func 179) #[.agg #[.int .u8 n.k,.int .i64 n.b,.bool n.s]] #[]] x.W fun r w'=>r=.returned (.bool bb)/\Below x.W.heap.size x.W w'):=fun x=>HC.out x.W x.h
   clear m6 m0 m1 m2
   go_enter Tryz.func121,Tryz.ntmps121
   go_wp2_with fail
   rw [HV.out];refine bC (S:=SG V) (by kernel_rfl) (by kernel_rfl) (Below.refl _ _).drew ?_
   repeat (go_big_quiet_step ((go_at_call 178;exact Calls.quiet_in _ (KT.out _) (fun _ _=>SG.keep))))
   refine wpQuiet_nil ?_;rintro w5 ⟨⟨W5,hS5⟩,rfl⟩;have HS5:Hid (Below V.heap.size V w5):=hS5;clear hc0 hc1 hc2 hc6 hS5 hne hex
   go_wp2_with fail
   go_ret
   exact ⟨rfl,HF.out _ HS5.out⟩
  ·have he':(t.toList == [])=false:=by simpa using he
   have p2:(t.toList == tx.toList)=true:=by rw [he',Bool.false_or] at hq;exact hq
   clear he hq;have hc6:∀x:HW (SG V),x.W.cell? ⟨W.heap.size,6,none⟩=some (.string t):=fun x=>aY m6 x.h
   have hc0:∀x:HW (SG V),x.W.cell? ⟨W.heap.size+1,0,none⟩=some (.int .u8 n.k):=fun x=>aY m0 x.h
   have hc1:∀x:HW (SG V),x.W.cell? ⟨W.heap.size+1,1,none⟩=some (.int .i64 n.b):=fun x=>aY m1 x.h
   have hc2:∀x:HW (SG V),x.W.cell? ⟨W.heap.size+1,2,none⟩=some (.bool n.s):=fun x=>aY m2 x.h
   have hne:Nonempty (HW (SG V)):=⟨⟨V.drew,(Below.refl _ _).drew⟩⟩;have hex:∀x:HW (SG V),∃y:HW (SG V),x.W=y.W:=fun x=>⟨x,rfl⟩
   have KT:Hid (∀x:HW (SG V),Da 178 #[.slice (some ⟨W.heap.size,0,none⟩) 6 6,.func (.func 179) #[.agg #[.int .u8 n.k,.int .i64 n.b,.bool n.s]] #[]] x.W fun r w'=>r=.returned (.bool bb)/\Below x.W.heap.size x.W w'):=fun x=>HC.out x.W x.h
   clear m6 m0 m1 m2
   go_enter Tryz.func121,Tryz.ntmps121
   go_wp2_with fail
   rw [HV.out];refine bC (S:=SG V) (by kernel_rfl) (by kernel_rfl) (Below.refl _ _).drew ?_
   repeat (go_big_quiet_step ((go_at_call 178;exact Calls.quiet_in _ (KT.out _) (fun _ _=>SG.keep))))
   refine wpQuiet_nil ?_;rintro w5 ⟨⟨W5,hS5⟩,rfl⟩;have HS5:Hid (Below V.heap.size V w5):=hS5;clear hc0 hc1 hc2 hc6 hS5 hne hex
   go_wp2_with fail
   go_ret
   exact ⟨rfl,HF.out _ HS5.out⟩
 ·have hq':(t.toList == [] || t.toList == tx.toList)=false:=by simpa using hq
  rw [hq',Bool.false_and];rw [Bool.or_eq_false_iff] at hq';obtain ⟨p1,p2⟩:=hq';clear hq
  go_enter Tryz.func121,Tryz.ntmps121
  go_wp2_with fail
  rw [HV.out]
  go_quiet (fail)
  go_wp2_with fail
  go_ret
  exact ⟨rfl,HF.out _ (HD.out _)⟩
def Rw.cs (r:Rw):List Value:=r.ns.map (Value.int .u8)++[.string ⟨r.t.toArray⟩,.func (.func r.a.id) #[] #[],.func (.func r.b.id) #[] #[]]
def eH:List Value:=tab.flatMap Rw.cs
theorem mO:eH.length=360:=by decide +kernel
theorem uh:∀v∈eH,v.oneCell'=true:=by
 intro v hv;obtain ⟨r,hr,hv⟩:=List.mem_flatMap.1 hv;unfold Rw.cs at hv
 rcases List.mem_append.1 hv with h|h
 ·obtain ⟨k,_,rfl⟩:=List.mem_map.1 h;rfl
 ·simp only [List.mem_cons,List.not_mem_nil,or_false] at h
  rcases h with rfl|rfl|rfl <;> rfl
theorem oG {o:Oper}{a:Act}{K:Act->World->Prop}{Q:Exit->Act->World->Prop}{w0 w1:World}{N:Nat}{L:List Value}{f:Unit->World->Result Next}(hL:L=eH) (hr:(storeCells ⟨N,0,none⟩ eH).run Tryz.prog w0=.ok () w1) (h:Oper.upon Tryz.prog o a K Q (f () w1)):Oper.upon Tryz.prog o a K Q ((Sem.run Tryz.prog (storeCells ⟨N,0,none⟩ L) w0).andThen f):=by
 subst hL;rw [hr];exact h
theorem dD {P:Program}{fn:Func}{tmps:Array Value}{w:World}{a:Nat}{t:TypeId}{ad:Addr}{v:Value}(h:fn.results=#[.cell a t]) (ha:tmps.getD a undef=.pointer (some ad)) (hl:(loadVar t ad).run P w=.ok v w):(results fn tmps).run P w=.ok v w:=by
 have ha':tmps[a]?.getD undef=.pointer (some ad):=by rw [<-Array.getD_eq_getD_getElem?];exact ha
 simp [results,h,ha',asAddr,hl]
set_option maxRecDepth 100000 in
theorem rN (W:World):Da 120 #[] W fun e w'=>e=.returned (.agg eH.toArray)/\Below W.heap.size W w':=by
 obtain ⟨W0,hW0⟩:∃W0,W.alloc (.cells Tryz.zeroCells184 184)=W0:=⟨_,rfl⟩;have hz:(Tryz.zeroCells184).size=360:=by kernel_rfl
 have hb0:W0.heap[W.heap.size]?=some (.cells Tryz.zeroCells184 184 (0,0)):=by rw [<-hW0];exact am W _
 have hB0:Below W.heap.size W W0:=by rw [<-hW0];exact (Below.refl _ _).alloc (Nat.le_refl _) _
 have hst:=run_storeCells_at Tryz.prog W.heap.size 0 184 eH 0 Tryz.zeroCells184 W0 hb0 (by rw [mO,hz];decide) uh
 have e1:(Tryz.zeroCells184).toList.take (0+0)++eH++(Tryz.zeroCells184).toList.drop (0+0+eH.length)=eH:=by
  rw [mO,List.drop_eq_nil_of_le (by rw [Array.length_toList,hz];decide)];simp
 rw [e1] at hst;obtain ⟨W1,hW1⟩:∃W1,W0.setRow W.heap.size eH.toArray=W1:=⟨_,rfl⟩;rw [hW1] at hst;have hb1:W1.heap[W.heap.size]?=some (.cells eH.toArray 184 (0,0)):=by rw [<-hW1];exact setRow_heap W0 _ _ _ _ _ hb0
 have hB1:Below W.heap.size W W1:=by rw [<-hW1];exact iX hB0 (Kp.setRow W0 _ _) (fun k e=>by omega) hB0.size
 have hl:(loadVar 184 ⟨W.heap.size,0,none⟩).run Tryz.prog W1=.ok (.agg eH.toArray) W1:=run_loadVar_row (P:=Tryz.prog) W1 W.heap.size 184 184 eH.toArray (0,0) _ hb1 Tryz.underlying184 (by first|rfl|kernel_rfl) (by first|rfl|kernel_rfl);have HS:Hid ((storeCells ⟨W.heap.size,0,none⟩ eH).run Tryz.prog W0=.ok () W1):=hst;have HL:Hid ((loadVar 184 ⟨W.heap.size,0,none⟩).run Tryz.prog W1=.ok (.agg eH.toArray) W1):=hl;have HB:Hid (Db W W1):=hB1;have HW:Hid (W.alloc (.cells Tryz.zeroCells184 184)=W0):=hW0;clear hW0 hz hb0 hB0 hst e1 hW1 hb1 hB1 hl
 go_enter Tryz.func120,Tryz.ntmps120
 go_wp2_with fail
 rw [HW.out];refine oG (by kernel_rfl) HS.out ?_
 go_wp2_with fail
 refine bodyPost_ret (v:=.agg eH.toArray) (dD (a:=0) (t:=184) (ad:=⟨W.heap.size,0,none⟩) (by kernel_rfl) (by rfl) HL.out) rfl ?_;exact ⟨rfl,HB.out⟩
theorem SS.nd {S:Nat->Prop}{W:World}{g:Nat}{st:Sy}(h:SS S W g st) {b cap:Nat}{n m:Nd}{r:List Nd}(e:st.ns=n :: r) (hc:W.cell? ⟨g,1,none⟩=some (.slice (some ⟨b,0,none⟩) (r.length+1) cap)) (j:Nat) (u:Value) (hj:j<3) (hm:n.cs.set j u=m.cs) :
  W.frozen? ⟨b,r.length*3+j,none⟩=false/\Mv S g W (W.setCell ⟨b,r.length*3+j,none⟩ u) { st with ns:=m :: r }:=by
 obtain ⟨vn,vw,hv,s1,s2⟩:=h.ex;have e1:vn=.slice (some ⟨b,0,none⟩) (r.length+1) cap:=by have:=hv.sb.cells.2.1;rw [hc] at this;exact (Option.some.inj this).symm
 subst e1;have hn:Rn tN W (.slice (some ⟨b,0,none⟩) (r.length+1) cap) (n :: r):=by rw [<-e];exact hv.rn
 refine ⟨World.ownsRow.frozenAt hn _,Mv.mk' (SV.nd e hv j u hj hm) h.sg (fun k e=>.inl (s1 k e)) (fun k e=>.inl (s2 k e)) ((Kp.set _ _ _ _).sub (fun k e=>by rw [e];exact s1 b rfl)) hv.sb.cells.2.1⟩
theorem SS.nodes {S:Nat->Prop}{W:World}(h:SS S W g st) {n:Nd}{r:List Nd}(e:st.ns=n :: r):∃b cap,W.cell? ⟨g,1,none⟩=some (.slice (some ⟨b,0,none⟩) (r.length+1) cap)/\W.cell? ⟨b,r.length*3,none⟩=some (.int .u8 n.k)/\W.cell? ⟨b,r.length*3+1,none⟩=some (.int .i64 n.b)/\W.cell? ⟨b,r.length*3+2,none⟩=some (.bool n.s)/\r.length+1<=cap:=by
 obtain ⟨vn,vw,hv,s1,s2⟩:=h.ex;have hn1:=hv.rn;rw [e] at hn1;obtain ⟨b,cap,rfl,hc1,hc2⟩:=iP hn1;obtain ⟨a0,a1,a2⟩:=gw hn1;exact ⟨b,cap,hv.sb.cells.2.1,a0,a1,a2,hc2⟩
theorem SS.cells2 {S:Nat->Prop}{W:World}{g b cap:Nat}{st:Sy}(h:SS S W g st) {n:Nd}{r:List Nd}(e:st.ns=n :: r) (hc:W.cell? ⟨g,1,none⟩=some (.slice (some ⟨b,0,none⟩) (r.length+1) cap)):W.cell? ⟨b,r.length*3,none⟩=some (.int .u8 n.k)/\W.cell? ⟨b,r.length*3+1,none⟩=some (.int .i64 n.b)/\W.cell? ⟨b,r.length*3+2,none⟩=some (.bool n.s):=by
 obtain ⟨b',cap',h1,h2,h3,h4,_⟩:=h.nodes e;rw [hc] at h1;cases h1;exact ⟨h2,h3,h4⟩
theorem jF {S:Nat->Prop}{W:World}(h:SS S W g st) (hz:Bz 999999980 st) {n:Nd}{r:List Nd}(e:st.ns=n :: r) {b cap:Nat}(hc:W.cell? ⟨g,1,none⟩=some (.slice (some ⟨b,0,none⟩) (r.length+1) cap)) :
  Da 65 #[spg g,.pointer (some ⟨b,r.length*3,none⟩)] W fun rr w'=>rr=.returned (.tuple #[])/\Mv S g W w' st.exprIn:=by
 have hns:st.ns≠[]:=by rw [e];simp
 obtain ⟨a0,a1,a2⟩:=h.cells2 e hc
 by_cases h19:n.k=19
 ·have e9:st.exprIn={ (st.aws [.S,.I 3]) with ns:=⟨n.k,n.b+1,true⟩ :: r }:=by unfold Sy.exprIn;rw [e];simp only;rw [if_pos h19,if_pos h19]
  have en:(st.aws [.S,.I 3]).ns=⟨n.k,n.b+1,n.s⟩ :: r:=by show awN (.I 3) (awN .S st.ns)=_;rw [e];rfl
  have HF:Hid (Da 118 #[spg g] W fun rr w'=>rr=.returned (.tuple #[])/\Mv S g W w' (st.aws Fx.blankIn3.pz)):=iD h hns (hz.mono (by omega))
  have HX:Hid (∀w',Mv S g W w' (st.aws Fx.blankIn3.pz)->w'.frozen? ⟨b,r.length*3+2,none⟩=false/\w'.cell? ⟨b,r.length*3+2,none⟩=some (.bool n.s)/\Mv S g W (w'.setCell ⟨b,r.length*3+2,none⟩ (.bool true)) st.exprIn):=fun w' m=>by
   have hcc:=m.2.2.trans hc;obtain ⟨S1,t1,u1⟩:=Mv.seq m;obtain ⟨x1,x2⟩:=SS.nd t1 (n:=⟨n.k,n.b+1,n.s⟩) (m:=⟨n.k,n.b+1,true⟩) en hcc 2 (.bool true) (by omega) rfl;refine ⟨x1,(t1.cells2 en hcc).2.2,?_⟩;rw [e9];exact u1 _ _ x2
  have q1:(n.k == 19)=true:=by simpa using h19
  clear h hz hns e9 en h19
  go_enter Tryz.func65,Tryz.ntmps65
  go_wp2_with (go_at_call 118;refine HF.out.mono ?_;rintro r1 w1 ⟨rfl,m1⟩;obtain ⟨x1,x2,x3⟩:=HX.out _ m1;have HY:=show Hid (Mv S g W (w1.setCell ⟨b,r.length*3+2,none⟩ (.bool true)) st.exprIn) from x3;clear x3 m1)
  go_end0
  exact ⟨rfl,HY.out⟩
 ·have q1:(n.k == 19)=false:=by simpa using h19
  by_cases h31:n.k=31/\n.s=false
  ·have e9:st.exprIn={ (st.aws [.B0]) with ns:=⟨n.k,n.b,true⟩ :: r }:=by unfold Sy.exprIn;rw [e];simp only;rw [if_neg h19,if_pos h31,if_neg h19]
   have en:(st.aws [.B0]).ns=⟨n.k,n.b,n.s⟩ :: r:=by show awN .B0 st.ns=_;rw [e];rfl
   have HF:Hid (Da 119 #[spg g,.agg #[.int .u8 3,.string ⟨#[]⟩,.int .i64 0,.int .i64 0,.bool false]] W fun rr w'=>rr=.returned (.tuple #[])/\Mv S g W w' (st.aw .B0)):=iw h .B0 ⟨rfl,by decide⟩ (hz.mono (by omega)) (.inr trivial)
   have HX:Hid (∀w',Mv S g W w' (st.aw .B0)->w'.frozen? ⟨b,r.length*3+2,none⟩=false/\w'.cell? ⟨b,r.length*3+2,none⟩=some (.bool n.s)/\Mv S g W (w'.setCell ⟨b,r.length*3+2,none⟩ (.bool true)) st.exprIn):=fun w' m=>by
    have hcc:=m.2.2.trans hc;obtain ⟨S1,t1,u1⟩:=Mv.seq m;obtain ⟨x1,x2⟩:=SS.nd t1 (n:=⟨n.k,n.b,n.s⟩) (m:=⟨n.k,n.b,true⟩) en hcc 2 (.bool true) (by omega) rfl;refine ⟨x1,(t1.cells2 en hcc).2.2,?_⟩;rw [e9];exact u1 _ _ x2
   have q2:(n.k == 31)=true:=by simpa using h31.1
   rw [h31.2] at a2;clear h hz hns e9 en h19 h31
   go_enter Tryz.func65,Tryz.ntmps65
   go_wp2_with (go_at_call 119;refine HF.out.mono ?_;rintro r1 w1 ⟨rfl,m1⟩;obtain ⟨x1,x2,x3⟩:=HX.out _ m1;have HY:=show Hid (Mv S g W (w1.setCell ⟨b,r.length*3+2,none⟩ (.bool true)) st.exprIn) from x3;clear x3 m1)
   go_end0
   exact ⟨rfl,HY.out⟩
  ·have e9:st.exprIn={ st with ns:=⟨n.k,n.b,true⟩ :: r }:=by unfold Sy.exprIn;rw [e];simp only;rw [if_neg h19,if_neg h31,if_neg h19]
   obtain ⟨x1,x2⟩:=SS.nd h (n:=n) (m:=⟨n.k,n.b,true⟩) e hc 2 (.bool true) (by omega) rfl;rw [<-e9] at x2;have HY:=show Hid (Mv S g W (W.setCell ⟨b,r.length*3+2,none⟩ (.bool true)) st.exprIn) from x2
   clear x2 e9 h hz hns
   by_cases h31':n.k=31
   ·have q2:(n.k == 31)=true:=by simpa using h31'
    have hs:n.s=true:=by cases hq:n.s with|true=>rfl|false=>exact absurd ⟨h31',hq⟩ h31
    rw [hs] at a2;clear h31 h31' h19 hs
    go_enter Tryz.func65,Tryz.ntmps65
    go_wp2_with fail
    go_end0
    exact ⟨rfl,HY.out⟩
   ·have q2:(n.k == 31)=false:=by simpa using h31'
    clear h31 h31' h19
    go_enter Tryz.func65,Tryz.ntmps65
    go_wp2_with fail
    go_end0
    exact ⟨rfl,HY.out⟩
end Go.Proofs.YtpdlohfdjiaegaaGreatDoor
