import Derived.Test.YtpdlohfdjiaegaaGreatDoorM30
set_option linter.unusedVariables false
set_option linter.unusedSimpArgs false
namespace Go.Proofs.YtpdlohfdjiaegaaGreatDoor
open Go.RowKit
open Lw (Dc bE rt frm dep rtT rtN dcs dcs_len dcs_one)
def An (S:Nat→Prop) (g:Nat) (W W':World) (v:Value) (l:List Dc) (st:Sy):Prop:=
 (∃S',SS S' W' g st∧(∀k,S' k→S k∨W.heap.size≤k)∧∀k,v.ownBlock=some k→(S k∨W.heap.size≤k)∧¬S' k)∧Rd W' v l∧Kp S W W'
theorem tw_take {α:Type}(p:α→Bool) (l:List α) (k:Nat) (hk:k≤l.length) (h:∀x∈l.take k,p x=true) (h2:∀x,l[k]?=some x→p x=false):l.takeWhile p=l.take k∧l.dropWhile p=l.drop k:=by
 induction l generalizing k with
 |nil=>simp at hk;subst hk;simp
 |cons a r ih=>
  cases k with
  |zero=>
   have:=h2 a rfl
   simp [List.takeWhile_cons,List.dropWhile_cons,this]
  |succ k=>
   have ha:=h a (by simp)
   obtain ⟨i1,i2⟩:=ih k (by simpa using hk) (fun x hx=>h x (by simp [hx])) (fun x hx=>h2 x (by simpa using hx))
   simp [List.takeWhile_cons,List.dropWhile_cons,ha,i1,i2]
set_option maxHeartbeats 1000000 in
theorem takeBegins_any {S:Nat→Prop}{W:World}{g:Nat}{st:Sy}(h:SS S W g st) (hl:st.ws.length≤1000000000) :
  Calls Tryz.prog 75 #[spg g] W fun r w'=>∃v,r=.returned v∧An S g W w' v (st.ws.takeWhile isBg) { st with ws:=st.ws.dropWhile isBg }:=by
 obtain ⟨vn,vw,hv,s1,s2⟩:=h.ex
 have hsg:=h.sg
 have hlt:=h.lt
 obtain ⟨p,cap,e,hc1,hc2⟩:=rd_shape hv.rd
 subst e
 obtain ⟨L,hL⟩:∃L,st.ws=L:=⟨_,rfl⟩
 have hlL:L.length≤1000000000:=by rw [←hL];exact hl
 have hcL:L.length≤cap:=by rw [←hL];exact hc1
 have HV:Hid (∀V,Below W.heap.size W V→V.cell? ⟨g,2,none⟩=some (.slice p L.length cap)∧V.frozen? ⟨g,2,none⟩=false∧Ld V p L):=fun V hb=>by
  have:=hv.below hb
  rw [←hL]
  exact ⟨this.sb.cells.2.2.1,this.sb.frozen 2,rd_ld this.rd⟩
 have HD:Hid (∀(n:Nat),n≤L.length→∀V,Below W.heap.size W V→Calls Tryz.prog 124 #[.slice p n cap] V fun r w'=>∃v,r=.returned v∧Rd w' v (L.take n)∧Below W.heap.size W w'∧(∀k,v.ownBlock=some k→W.heap.size≤k)):=fun n hn V hb=>by
  have hq:=hv.below hb
  have hr:=hq.rd
  rw [hL] at hr
  cases p with
  |none=>
   refine (clone_nil V n cap).mono ?_
   rintro r w' ⟨rfl,rfl⟩
   have h0:L=[]:=by
    rcases hr.2 with ⟨_,h0⟩|⟨_,_,_,h1,_⟩
    ·exact List.eq_nil_of_length_eq_zero h0
    ·cases h1
   refine ⟨_,rfl,by rw [h0,List.take_nil];exact rd_nil _,hb,fun k e=>by cases e⟩
  |some a=>
   obtain ⟨b,ha⟩:∃b,a=⟨b,0,none⟩:=by
    rcases hr.2 with ⟨h1,_⟩|⟨b,_,_,h1,_⟩
    ·cases h1
    ·cases h1;exact ⟨b,rfl⟩
   subst ha
   have hl2:(L.take n).length=n:=by rw [List.length_take];omega
   have:=clone_some (cap:=cap) ((rd_ld hr).take n) (by omega)
   rw [hl2] at this
   refine this.mono ?_
   rintro r w' ⟨v',rfl,a1,a2,a3⟩
   exact ⟨v',rfl,a1,hb.trans (a2.mono hb.size),fun k e=>Nat.le_trans hb.size (a3 k e)⟩
 have HE:Hid (∀(n:Nat),n≤L.length→(L.takeWhile isBg=L.take n∧L.dropWhile isBg=L.drop n)→∀V v,Below W.heap.size W V→Rd V v (L.take n)→(∀k,v.ownBlock=some k→W.heap.size≤k)→Calls Tryz.prog 125 #[.slice p L.length cap,.int .i64 0,.int .i64 n] V fun r w'=>∃p' n' c',r=.returned (.slice p' n' c')∧(w'.cell? ⟨g,2,none⟩=some (.slice p L.length cap)∧w'.frozen? ⟨g,2,none⟩=false)∧An S g W (w'.setCell ⟨g,2,none⟩ (.slice p' n' c')) v (L.takeWhile isBg) { st with ws:=L.dropWhile isBg }):=fun n hn htw V v hb hvr hvn=>by
  have hq:=hv.below hb
  have hr:=hq.rd
  rw [hL] at hr
  rw [htw.1,htw.2]
  have fin:∀(w':World) (v':Value),Rd w' v' (L.drop n)→Kp (fun k=>(Value.slice p L.length cap).ownBlock=some k) V w'→Nb V (.slice p L.length cap) v'→(w'.cell? ⟨g,2,none⟩=some (.slice p L.length cap)∧w'.frozen? ⟨g,2,none⟩=false)∧An S g W (w'.setCell ⟨g,2,none⟩ v') v (L.take n) { st with ws:=L.drop n }:=fun w' v' b1 b2 b3=>by
   have hq':SV V g st vn (.slice p L.length cap):=by rw [←hL];exact hq
   obtain ⟨c1,c2⟩:=hq'.ws (Below.refl _ _) b2 b1 b3
   refine ⟨c1,?_⟩
   obtain ⟨vw',d1,d2⟩:=c2.ex
   have hvne:∀k,v.ownBlock=some k→¬S k:=fun k e hs=>by have:=hlt k hs;have:=hvn k e;omega
   have hkS:Kp S V (w'.setCell ⟨g,2,none⟩ v'):=c2.kp.sub (by rintro k (e|e);rw [e];exact hsg;exact s2 k (by rw [hL];exact e))
   refine ⟨⟨fun k=>S k∨(W.heap.size≤k∧vw'.ownBlock=some k),⟨⟨vn,vw',d1,fun k e=>.inl (s1 k e),fun k e=>?_⟩,.inl hsg,?_⟩,?_,?_⟩,rd_kp hvr hkS hvne,(Kp.of_below hb).step hkS (fun _ _ h=>h)⟩
   ·rcases d2 with d2|⟨q,hq1,hq2⟩
    ·exact .inl (s2 k (by rw [hL,←d2];exact e))
    ·exact .inr ⟨by rw [hq1] at e;cases e;exact Nat.le_trans hb.size hq2,e⟩
   ·rintro k (a|a)
    ·exact Nat.lt_of_lt_of_le (hlt k a) (Nat.le_trans hb.size hkS.size)
    ·exact row_lt d1.rd k a.2
   ·rintro k (a|a)
    ·exact .inl a
    ·exact .inr a.1
   ·intro k e
    refine ⟨.inr (hvn k e),?_⟩
    rintro (a|a)
    ·exact hvne k e a
    ·rcases d2 with d2|⟨q,hq1,hq2⟩
     ·have hs:=s2 k (by rw [hL,←d2];exact a.2)
      exact hvne k e hs
     ·rw [hq1] at a
      have h9:=row_lt hvr k e
      have:q=k:=by simpa using a.2
      omega
  by_cases h0:n=0
  ·subst h0
   refine (delete_none (.slice p L.length cap) hr (by omega)).mono ?_
   rintro r w' ⟨rfl,rfl⟩
   exact ⟨_,_,_,rfl,fin _ _ (by rw [List.drop_zero];exact hr) (Kp.refl _ _) (.inl rfl)⟩
  ·cases p with
   |none=>
    have h0':L=[]:=by
     rcases hr.2 with ⟨_,h0⟩|⟨_,_,_,h1,_⟩
     ·exact List.eq_nil_of_length_eq_zero h0
     ·cases h1
    rw [h0'] at hn
    simp at hn
    exact absurd hn h0
   |some a=>
    obtain ⟨b,ha⟩:∃b,a=⟨b,0,none⟩:=by
     rcases hr.2 with ⟨h1,_⟩|⟨b,_,_,h1,_⟩
     ·cases h1
     ·cases h1;exact ⟨b,rfl⟩
    subst ha
    refine (delete_some (n:=n) hr (by omega) hn (by omega)).mono ?_
    rintro r w' ⟨rfl,a1,a2⟩
    exact ⟨_,_,_,rfl,fin _ _ a1 (a2.sub (fun k e=>by rw [e];rfl)) (.inl rfl)⟩
 have HP:Hid (∀(d:Dc) (V:World),Calls Tryz.prog 123 #[.agg #[.int .u8 d.k,.string d.t,.int .i64 d.b,.int .i64 d.i,.bool d.e]] V fun e w'=>e=.returned (.bool (isBg d))∧Below V.heap.size V w'):=isBg_any
 rw [hL] at ⊢
 clear hv h s1 s2 hL hlt hl
 have HT:Hid (∀n,n≤L.length→(∀x∈L.take n,isBg x=true)→(∀x,L[n]?=some x→isBg x=false)→L.takeWhile isBg=L.take n∧L.dropWhile isBg=L.drop n):=fun n a b c=>tw_take isBg L n a b c
 go_enter Tryz.func75,Tryz.ntmps75
 go_wp2_with fail
 go_loopw [3] (fun i wr=>∃k:Nat,k≤L.length∧i=.int .i64 k∧Hid (∀x∈L.take k,isBg x=true)∧Hid (Below W.heap.size W wr)) (fun i _=>L.length-(intOf i).toNat)
 case atStart=>exact ⟨0,Nat.zero_le _,rfl,fun x hx=>by simp at hx,Below.refl _ _⟩
 case round=>
  obtain ⟨k,hk,rfl,HI,HB⟩:=hrel
  obtain ⟨x1,x2,x3⟩:=HV.out _ HB.out
  have HL:Hid (Ld wr p L):=x3
  clear x2 x3
  have fin:∀w1,Hid (Below W.heap.size W w1)→(L.takeWhile isBg=L.take k∧L.dropWhile isBg=L.drop k)→True:=fun _ _ _=>trivial
  by_cases hlt:k<L.length
  ·have q1:(k:Int)<L.length:=by omega
   have q0:(0:Int)≤k:=by omega
   obtain ⟨x,hx⟩:∃x,L[k]?=some x:=⟨_,List.getElem?_eq_getElem hlt⟩
   obtain ⟨b,off,rfl,c0,c1,c2,c3,c4⟩:=HL.out k x hx
   by_cases he:isBg x=true
   ·have HN:Hid (∀y∈L.take (k+1),isBg y=true):=fun y hy=>by
     rw [List.take_add_one,hx] at hy
     rcases List.mem_append.1 hy with hy|hy
     ·exact HI.out y hy
     ·simp at hy;rw [hy];exact he
    clear hx
    go_wp2_with (go_at_call 123;refine (HP.out x _).mono ?_;rintro e w1 ⟨rfl,hb1⟩;rw [he];have HC:Hid (Below W.heap.size W w1):=HB.out.trans (hb1.mono HB.out.size);clear hb1)
    exact ⟨⟨k+1,hlt,by go_num,HN,HC⟩,by simp [intOf];omega⟩
   ·have he':isBg x=false:=by simpa using he
    have HW:Hid (L.takeWhile isBg=L.take k∧L.dropWhile isBg=L.drop k):=HT.out k hk HI.out (fun y hy=>by rw [hx] at hy;cases hy;exact he')
    have q3:(k:Int)≤cap:=by omega
    clear he hx fin
    go_wp2_with (first|(go_at_call 123;refine (HP.out x _).mono ?_;rintro e w1 ⟨rfl,hb1⟩;rw [he'];have HCW:Hid (Below W.heap.size W w1):=HB.out.trans (hb1.mono HB.out.size);obtain ⟨z1,_,_⟩:=HV.out _ HCW.out;clear hb1)|(go_at_call 124;refine (HD.out k hk _ HCW.out).mono ?_;rintro e w2 ⟨v2,rfl,a1,a2,a3⟩;have HR:Hid (Rd w2 v2 (L.take k)∧Below W.heap.size W w2∧∀k,v2.ownBlock=some k→W.heap.size≤k):=⟨a1,a2,a3⟩;obtain ⟨y1,_,_⟩:=HV.out _ a2;clear a1 a2 a3)|(go_at_call 125;refine (HE.out k hk HW.out _ _ HR.out.2.1 HR.out.1 HR.out.2.2).mono ?_;rintro e w3 ⟨p3,n3,c3,rfl,⟨y2,y3⟩,y4⟩;have HX:=hid y4;clear y4))
    go_ret
    exact ⟨_,rfl,HX.out⟩
  ·obtain rfl:k=L.length:=by omega
   have HW:Hid (L.takeWhile isBg=L.take L.length∧L.dropWhile isBg=L.drop L.length):=HT.out _ hk HI.out (fun y hy=>by simp at hy)
   have q1:¬((L.length:Int)<L.length):=by omega
   have q3:(L.length:Int)≤cap:=by omega
   have HCW:Hid (Below W.heap.size W wr):=HB.out
   clear fin
   go_wp2_with (first|(go_at_call 124;refine (HD.out L.length hk _ HCW.out).mono ?_;rintro e w2 ⟨v2,rfl,a1,a2,a3⟩;have HR:Hid (Rd w2 v2 (L.take L.length)∧Below W.heap.size W w2∧∀k,v2.ownBlock=some k→W.heap.size≤k):=⟨a1,a2,a3⟩;obtain ⟨y1,_,_⟩:=HV.out _ a2;clear a1 a2 a3)|(go_at_call 125;refine (HE.out L.length hk HW.out _ _ HR.out.2.1 HR.out.1 HR.out.2.2).mono ?_;rintro e w3 ⟨p3,n3,c3,rfl,⟨y2,y3⟩,y4⟩;have HX:=hid y4;clear y4))
   go_ret
   exact ⟨_,rfl,HX.out⟩
theorem ins_wait {S:Nat→Prop}{W:World}{g:Nat}{st:Sy}{vn:Value}{p:Option Addr}{n0 cap:Nat}(hv:SV W g st vn (.slice p n0 cap)) (hs:S g) (h1:∀k,vn.ownBlock=some k→S k) (h2:∀k,(Value.slice p n0 cap).ownBlock=some k→S k) (hl:st.ws.length≤1000000000) (d:Dc) {i:Nat}(hi:i≤st.ws.length) {V:World}(hb:Below W.heap.size W V) :
  Calls Tryz.prog 48 #[.slice p n0 cap,.int .i64 i,.slice (some ⟨V.heap.size,0,none⟩) 1 1] (V.alloc (.cells #[.int .u8 d.k,.string d.t,.int .i64 d.b,.int .i64 d.i,.bool d.e] 57)) fun r w'=>∃p' n' c',r=.returned (.slice p' n' c')∧(w'.cell? ⟨g,2,none⟩=some (.slice p n0 cap)∧w'.frozen? ⟨g,2,none⟩=false)∧Mv S g W (w'.setCell ⟨g,2,none⟩ (.slice p' n' c')) { st with ws:=st.ws.take i++d :: st.ws.drop i }:=by
 have hb2:Below W.heap.size W (V.alloc (.cells #[.int .u8 d.k,.string d.t,.int .i64 d.b,.int .i64 d.i,.bool d.e] 57)):=hb.alloc hb.size _
 have hq:=hv.below hb2
 have hne:(Value.slice p n0 cap).ownBlock≠some V.heap.size:=fun e=>by have:=row_lt (hv.below hb).rd _ e;omega
 refine (insert_any d hq.rd hi (new_at V _) hne hl).mono ?_
 rintro r w' ⟨v',rfl,a1,a2,a3⟩
 obtain ⟨p',c',e,_⟩:=rd_shape a1
 obtain ⟨c1,c2⟩:=hv.ws hb2 a2 a1 a3
 subst e
 exact ⟨_,_,_,rfl,c1,c2.mv hv hs h1 h2⟩
set_option maxHeartbeats 1000000 in
theorem endLine_any {S:Nat→Prop}{W:World}{g:Nat}{st:Sy}(h:SS S W g st) (hl:st.ws.length≤1000000000) :
  Calls Tryz.prog 26 #[spg g] W fun r w'=>r=.returned (.tuple #[])∧Mv S g W w' st.endl:=by
 obtain ⟨vn,vw,hv,s1,s2⟩:=h.ex
 have hsg:=h.sg
 obtain ⟨p,cap,e,hc1,hc2⟩:=rd_shape hv.rd
 subst e
 obtain ⟨c0,c1,c2,c3,c4,c5,c6,c7⟩:=hv.sb.cells
 by_cases he:st.en=true
 ·have HA:Hid (Calls Tryz.prog 46 #[spg g,.func (.func 47) #[] #[]] W fun r w'=>r=.returned (.bool (st.ws.any isHd))∧Below W.heap.size W w'):=anyW_isHd hv hl
  by_cases ha:st.ws.any isHd=true
  ·have e9:st.endl=st:=by unfold Sy.endl;rw [if_neg (by rw [ha];simp)]
   have HM:Hid (∀V,Below W.heap.size W V→Mv S g W V st.endl):=fun V hb=>by rw [e9];exact Mv.quiet h hb
   rw [ha] at HA
   rw [he] at c6
   clear h hv s1 s2 e9
   go_enter Tryz.func26,Tryz.ntmps26
   go_wp2_with (go_at_call 46;refine HA.out.mono ?_;rintro r w1 ⟨rfl,hb1⟩;have HX:=show Hid (Mv S g W w1 st.endl) from HM.out _ hb1;clear hb1)
   go_end0
   exact ⟨rfl,HX.out⟩
  ·have ha':st.ws.any isHd=false:=by simpa using ha
   have e9:st.endl={ st with ws:=st.ws.take 0++dH :: st.ws.drop 0 }:=by unfold Sy.endl;rw [if_pos ⟨he,ha'⟩];rfl
   have HC:Hid (∀V,Below W.heap.size W V→V.cell? ⟨g,2,none⟩=some (.slice p st.ws.length cap)∧g<V.heap.size):=fun V hb=>⟨(hv.below hb).sb.cells.2.2.1,(hv.below hb).sb.lt⟩
   have HI:Hid (∀V,Below W.heap.size W V→Calls Tryz.prog 48 #[.slice p st.ws.length cap,.int .i64 0,.slice (some ⟨V.heap.size,0,none⟩) 1 1] (V.alloc (.cells #[.int .u8 4,.string ⟨#[]⟩,.int .i64 0,.int .i64 0,.bool false] 57)) fun r w'=>∃p' n' c',r=.returned (.slice p' n' c')∧(w'.cell? ⟨g,2,none⟩=some (.slice p st.ws.length cap)∧w'.frozen? ⟨g,2,none⟩=false)∧Mv S g W (w'.setCell ⟨g,2,none⟩ (.slice p' n' c')) st.endl):=fun V hb=>by rw [e9];exact ins_wait hv hsg s1 s2 hl dH (i:=0) (Nat.zero_le _) hb
   rw [ha'] at HA
   rw [he] at c6
   clear h hv s1 s2 e9 ha ha' he
   go_enter Tryz.func26,Tryz.ntmps26
   go_wp2_with (first|(go_at_call 46;refine HA.out.mono ?_;rintro r w1 ⟨rfl,hb1⟩;have HB:=show Hid (Below W.heap.size W w1) from hb1;obtain ⟨x1,x2⟩:=HC.out _ hb1;clear hb1)|(go_at_call 48;refine (HI.out _ HB.out).mono ?_;rintro r w3 ⟨p3,n3,c3,rfl,⟨y2,y3⟩,y4⟩;have HX:=hid y4;clear y4))
   go_end0
   exact ⟨rfl,HX.out⟩
 ·have he':st.en=false:=by simpa using he
  have e9:st.endl=st:=by unfold Sy.endl;rw [if_neg (by rw [he'];simp)]
  have HM:Hid (Mv S g W W st.endl):=by rw [e9];exact Mv.refl h
  rw [he'] at c6
  clear h hv s1 s2 e9 he he'
  go_enter Tryz.func26,Tryz.ntmps26
  go_wp2_with fail
  go_end0
  exact ⟨rfl,HM.out⟩
theorem bel_dn {B:Nat}{w W:World}(h:Below B w W) (m:Nat):Below B w (W.drewN m):=⟨by rw [World.drewN];exact h.os,by rw [World.drewN];exact h.tape,by rw [World.drewN];exact h.output,by rw [World.drewN];exact h.size,by rw [World.drewN];exact h.block⟩
set_option maxHeartbeats 2000000 in
theorem putEmpty_any {S:Nat→Prop}{W:World}{g:Nat}{st:Sy}(h:SS S W g st) (hl:st.ws.length≤1000000000) (hm:∀m,st.mr=some m→m≤st.ws.length) (f:Int) :
  Calls Tryz.prog 71 #[spg g,.int .i64 f] W fun r w'=>r=.returned (.tuple #[])∧Mv S g W w' (st.emp f):=by
 obtain ⟨vn,vw,hv,s1,s2⟩:=h.ex
 have hsg:=h.sg
 obtain ⟨p,cap,e,hc1,hc2⟩:=rd_shape hv.rd
 subst e
 obtain ⟨c0,c1,c2,c3,c4,c5,c6,c7⟩:=hv.sb.cells
 have hgl:=hv.sb.lt
 have quiet:st.emp f=st→∀V,Below W.heap.size W V→Mv S g W V (st.emp f):=fun e V hb=>by rw [e];exact Mv.quiet h hb
 cases hmr:st.mr with
 |none=>
  have HM:Hid (∀V,Below W.heap.size W V→Mv S g W V (st.emp f)):=quiet (by unfold Sy.emp;rw [hmr])
  rw [hmr] at c3 c4
  clear quiet h hv s1 s2
  have HB:Hid (∀m,Below W.heap.size W (W.drewN m)):=fun m=>bel_dn (Below.refl _ _) m
  go_enter Tryz.func71,Tryz.ntmps71
  go_wp2_with fail
  go_quiet (fail)
  go_wp2_with fail
  refine bodyPost_ret (v:=.tuple #[]) (by simp [results,Tryz.f71,go_sem]) rfl ?_
  exact ⟨rfl,HM.out _ (HB.out _)⟩
 |some m=>
  have hml:=hm m hmr
  rw [hmr] at c3 c4
  simp only [Option.isSome_some,Option.getD_some] at c3 c4
  have HB:Hid (∀m,Below W.heap.size W (W.drewN m)):=fun m=>bel_dn (Below.refl _ _) m
  by_cases hf:f<2
  ·have HM:Hid (∀V,Below W.heap.size W V→Mv S g W V (st.emp f)):=quiet (by unfold Sy.emp;rw [hmr];simp only;rw [if_pos (.inl hf)])
   clear quiet h hv s1 s2
   go_enter Tryz.func71,Tryz.ntmps71
   go_wp2_with fail
   go_quiet (fail)
   go_wp2_with fail
   refine bodyPost_ret (v:=.tuple #[]) (by simp [results,Tryz.f71,go_sem]) rfl ?_
   exact ⟨rfl,HM.out _ (HB.out _)⟩
  ·have qf:decide (f<2)=false:=decide_eq_false hf
   cases hw:st.wr with
   |false=>
    have HM:Hid (∀V,Below W.heap.size W V→Mv S g W V (st.emp f)):=quiet (by unfold Sy.emp;rw [hmr];simp only;rw [if_pos (.inr (.inl hw))])
    rw [hw] at c5
    clear quiet h hv s1 s2 c0 c1 c6 c7 hm hmr hml hw hl hsg hc1 hc2
    go_enter Tryz.func71,Tryz.ntmps71
    go_wp2_with fail
    go_quiet (fail)
    go_wp2_with fail
    refine bodyPost_ret (v:=.tuple #[]) (by simp [results,Tryz.f71,go_sem]) rfl ?_
    exact ⟨rfl,HM.out _ (HB.out _)⟩
   |true=>
    rw [hw] at c5
    have HK:Hid (∀V,Below W.heap.size W V→(V.cell? ⟨g,3,none⟩=some (.bool true)∧V.cell? ⟨g,5,none⟩=some (.bool true)∧V.cell? ⟨g,2,none⟩=some (.slice p st.ws.length cap)∧V.cell? ⟨g,4,none⟩=some (.int .i64 m)∧Below W.heap.size W V)):=fun V hb=>by
     have hgs:=hgl
     exact ⟨(hb.cell hgs).trans c3,(hb.cell hgs).trans c5,(hb.cell hgs).trans c2,(hb.cell hgs).trans c4,hb⟩
    have HC:Hid (∀V,Below W.heap.size W V→Calls Tryz.prog 79 #[.slice p m cap,.func (.func 123) #[] #[]] V fun r w'=>r=.returned (.bool ((st.ws.take m).any isBg))∧Below V.heap.size V w'):=fun V hb=>by
     have hl2:(st.ws.take m).length=m:=by rw [List.length_take];omega
     have:=ctf_isBg p (st.ws.take m) cap V ((rd_ld (hv.below hb).rd).take m) (by omega)
     rw [hl2] at this
     exact this
    have q5:(0:Int)≤(m:Int):=by omega
    have q6:(m:Int)≤(cap:Int):=by omega
    have HM:Hid ((st.ws.take m).any isBg=true→∀V,Below W.heap.size W V→Mv S g W V (st.emp f)):=fun ha=>quiet (by unfold Sy.emp;rw [hmr];simp only;rw [if_pos (.inr (.inr ha))])
    have HI:Hid ((st.ws.take m).any isBg=false→∀V,Below W.heap.size W V→Calls Tryz.prog 48 #[.slice p st.ws.length cap,.int .i64 m,.slice (some ⟨V.heap.size,0,none⟩) 1 1] (V.alloc (.cells #[.int .u8 5,.string ⟨#[]⟩,.int .i64 0,.int .i64 0,.bool false] 57)) fun r w'=>∃p' n' c',r=.returned (.slice p' n' c')∧(w'.cell? ⟨g,2,none⟩=some (.slice p st.ws.length cap)∧w'.frozen? ⟨g,2,none⟩=false)∧Mv S g W (w'.setCell ⟨g,2,none⟩ (.slice p' n' c')) (st.emp f)):=fun ha V hb=>by
     have e9:st.emp f={ st with ws:=st.ws.take m++dE :: st.ws.drop m }:=by
      unfold Sy.emp;rw [hmr];simp only
      rw [if_neg (by rintro (a|a|a);exact hf a;rw [hw] at a;cases a;rw [ha] at a;cases a)]
     rw [e9]
     exact ins_wait hv hsg s1 s2 hl dE (i:=m) hml hb
    generalize (st.ws.take m).any isBg=bg at *
    generalize st.ws.length=n0 at *
    clear quiet h hv s1 s2 c0 c1 c6 c7 hm hmr hw hsg hc2 c2 c3 c4 c5 hl hml hc1
    go_enter Tryz.func71,Tryz.ntmps71
    go_wp2_with fail
    go_region_held3 (fun w'=>w'.cell? ⟨g,3,none⟩=some (.bool true)∧w'.cell? ⟨g,5,none⟩=some (.bool true)∧w'.cell? ⟨g,2,none⟩=some (.slice p n0 cap)∧w'.cell? ⟨g,4,none⟩=some (.int .i64 m)∧Below W.heap.size W w') (first|(exact HK.out _ (by assumption))|(exact HK.out _ (Below.refl _ _).drew)|go_keep) (first|(go_at_call 79;refine (HC.out _ (by first|assumption|exact (Below.refl _ _).drew)).mono ?_;rintro e w1 ⟨rfl,hb1⟩;have hbW:=(by first|exact (Below.refl W.heap.size W).drew.trans (hb1.mono (Nat.le_refl _))|exact (by assumption:Below W.heap.size W _).trans (hb1.mono (Below.size (by assumption))):Below W.heap.size W w1);clear hb1))
    all_goals (
     have HBW:Hid (Below W.heap.size W w1):=hbW
     cases bg with
     |true=>
      have HM2:Hid (Mv S g W w1 (st.emp f)):=HM.out rfl _ hbW
      clear HM HI
      go_wp2_with fail
      refine bodyPost_ret (v:=.tuple #[]) (by simp [results,Tryz.f71,go_sem]) rfl ?_
      exact ⟨rfl,HM2.out⟩
     |false=>
      obtain ⟨x1,x2,x3,x4,_⟩:=HK.out _ hbW
      have hg1:g<w1.heap.size:=Nat.lt_of_lt_of_le hgl hbW.size
      have HBD:Hid (Below W.heap.size W w1.drew):=hbW.drew
      have HI2:Hid (∀V,Below W.heap.size W V→Calls Tryz.prog 48 #[.slice p n0 cap,.int .i64 m,.slice (some ⟨V.heap.size,0,none⟩) 1 1] (V.alloc (.cells #[.int .u8 5,.string ⟨#[]⟩,.int .i64 0,.int .i64 0,.bool false] 57)).drew fun r w'=>∃p' n' c',r=.returned (.slice p' n' c')∧(w'.cell? ⟨g,2,none⟩=some (.slice p n0 cap)∧w'.frozen? ⟨g,2,none⟩=false)∧Mv S g W (w'.setCell ⟨g,2,none⟩ (.slice p' n' c')) (st.emp f)):=fun V hb=>HI.out rfl V.drew hb.drew
      clear hbW HM HI
      go_wp2_with fail
      go_region_law (first|(go_simp;go_at_call 48;refine (HI2.out w1 HBW.out).mono ?_;rintro r w3 ⟨p3,n3,c3,rfl,⟨y2,y3⟩,y4⟩;have HX:=hid y4;clear y4))
      all_goals (
       go_wp2_with fail
       go_end0
       exact ⟨rfl,HX.out⟩))
structure HW (S:World→Prop) where
 W:World
 h:S W
theorem wp_region_quiet_in {P:Program}{S:World→Prop}{id:Nat}{Q:Exit→Act→World→Prop}{a:Act}{w:World}{l:List Oper}(hm:P.follows .mixedOrders=true) (hB:Region.lexB .any l.toArray=true) (hC:S w.drew)
  (h:wpQuiet P l.toArray (fun w'=>∃x:HW S,w'=x.W) (fun a'=>∀w',(∃x:HW S,w'=x.W)→Q .normal a' w') l a):(Code.region id l.toArray true).wp P Q a w:=
 wp_region_quiet (C:=fun w'=>∃x:HW S,w'=x.W) hm hB ⟨⟨w.drew,hC⟩,rfl⟩ (by simpa using h)
theorem Calls.quiet_in {P:Program}{S:World→Prop}{f:FuncId}{args:Array Value}{v:Value}(x:HW S) (h:Calls P f args x.W fun e w'=>e=.returned v∧Below x.W.heap.size x.W w') (hS:∀W W',S W→Below W.heap.size W W'→S W') :
  Calls P f args x.W fun e w''=>e=.returned v∧∃y:HW S,w''=y.W:=
 h.mono fun e w' ⟨he,hb⟩=>⟨he,⟨w',hS _ _ x.h hb⟩,rfl⟩
theorem cell_up {w w':World}{p:Addr}{v:Value}(h:w.cell? p=some v) (hb:Below w.heap.size w w'):w'.cell? p=some v:=(hb.cell (World.block_lt_of_cell? w p h)).trans h
def SG (V W:World):Prop:=Below V.heap.size V W
theorem SG.keep {V W W':World}(h:SG V W) (hb:Below W.heap.size W W'):SG V W':=Below.trans h (hb.mono (Below.size h))
theorem is_any (n:Nd) (k:Int) (W:World):Calls Tryz.prog 179 #[.agg #[.int .u8 n.k,.int .i64 n.b,.bool n.s],.int .u8 k] W fun e w'=>e=.returned (.bool (n.is k))∧Below W.heap.size W w':=by
 have HB:Hid (∀o,Below W.heap.size W (W.alloc o)):=fun o=>(Below.refl _ _).alloc (Nat.le_refl _) _
 by_cases h33:k=33
 ·subst h33
  have HQ:Hid (n.is 33=(n.k == 5 && (n.b:Int) == 0)):=by
   show _=_
   unfold Nd.is
   rw [if_pos rfl]
   by_cases a:n.k=5 <;> by_cases b:n.b=0 <;> simp [a,b]
  go_enter Tryz.func179,Tryz.ntmps179
  go_wp2_with fail
  all_goals (go_ret;rw [HQ.out];refine ⟨?_,HB.out _⟩;simp_all)
 ·have q:(k == 33)=false:=by simpa using h33
  have HQ:Hid (n.is k=(n.k == k)):=by
   show _=_
   unfold Nd.is
   rw [if_neg h33]
   by_cases a:n.k=k <;> simp [a]
  clear h33
  go_enter Tryz.func179,Tryz.ntmps179
  go_wp2_with fail
  go_ret
  rw [HQ.out]
  exact ⟨rfl,HB.out _⟩
def Lk (w:World) (b:Nat) (l:List Int):Prop:=∀j d,l[j]?=some d→w.cell? ⟨b,j,none⟩=some (.int .u8 d)
theorem Lk.below {w w':World}{b:Nat}{l:List Int}(h:Lk w b l) (hb:Below w.heap.size w w'):Lk w' b l:=fun j d hj=>(hb.cell (World.block_lt_of_cell? _ _ (h j d hj))).trans (h j d hj)
set_option maxHeartbeats 400000 in
theorem ixn_any (n:Nd) (b:Nat) (l:List Int) (cap:Nat) (W:World) (h:Lk W b l) (hl:l.length≤1000000000) :
  Calls Tryz.prog 205 #[.slice (some ⟨b,0,none⟩) l.length cap,.func (.func 179) #[.agg #[.int .u8 n.k,.int .i64 n.b,.bool n.s]] #[]] W fun r w'=>(∃z:Int,r=.returned (.int .i64 z)∧(decide (0≤z)=l.any n.is))∧Below W.heap.size W w':=by
 have H:Hid (Lk W b l):=h
 clear h
 have HP:Hid (∀(k:Int) (V:World),Calls Tryz.prog 179 #[.agg #[.int .u8 n.k,.int .i64 n.b,.bool n.s],.int .u8 k] V fun e w'=>e=.returned (.bool (n.is k))∧Below V.heap.size V w'):=is_any n
 go_enter Tryz.func205,Tryz.ntmps205
 go_wp2_with fail
 go_loopw [5,8] (fun _ i wr=>∃k:Nat,k≤l.length∧i=.int .i64 k∧Hid ((l.take k).any n.is=false)∧Hid (Below W.heap.size W wr)) (fun _ i _=>l.length-(intOf i).toNat)
 case atStart=>exact ⟨0,Nat.zero_le _,rfl,by show _=_;simp,Below.refl _ _⟩
 case round=>
  obtain ⟨k,hk,rfl,HI,HB⟩:=hrel
  by_cases hlt:k<l.length
  ·have q1:(k:Int)<l.length:=by omega
   have q0:(0:Int)≤k:=by omega
   obtain ⟨x,hx⟩:∃x,l[k]?=some x:=⟨_,List.getElem?_eq_getElem hlt⟩
   have c0:=(H.out.below HB.out) k x hx
   have HS:Hid ((l.take (k+1)).any n.is=n.is x):=any_step n.is l k x hx HI.out
   have HT:Hid ((l.take (k+1)).any n.is=true→l.any n.is=true):=any_take n.is l _
   clear hx
   by_cases he:n.is x=true
   ·go_wp2_with (go_at_call 179;refine (HP.out x _).mono ?_;rintro e w1 ⟨rfl,hb1⟩;rw [he];have HC:Hid (Below W.heap.size W w1):=HB.out.trans (hb1.mono HB.out.size);clear hb1)
    go_ret
    exact ⟨⟨_,rfl,by rw [HT.out (HS.out.trans he)];simp⟩,HC.out⟩
   ·have he':n.is x=false:=by simpa using he
    clear he
    go_wp2_with (go_at_call 179;refine (HP.out x _).mono ?_;rintro e w1 ⟨rfl,hb1⟩;rw [he'];have HC:Hid (Below W.heap.size W w1):=HB.out.trans (hb1.mono HB.out.size);clear hb1)
    exact ⟨⟨k+1,hlt,by go_num,HS.out.trans he',HC⟩,by simp [intOf];omega⟩
  ·obtain rfl:k=l.length:=by omega
   have q1:¬((l.length:Int)<l.length):=by omega
   go_wp2_with fail
   go_ret
   refine ⟨⟨_,rfl,?_⟩,HB.out⟩
   have:=HI.out
   rw [List.take_length] at this
   rw [this]
   rfl
theorem ctn_any (n:Nd) (b:Nat) (l:List Int) (cap:Nat) (W:World) (h:Lk W b l) (hl:l.length≤1000000000) :
  Calls Tryz.prog 178 #[.slice (some ⟨b,0,none⟩) l.length cap,.func (.func 179) #[.agg #[.int .u8 n.k,.int .i64 n.b,.bool n.s]] #[]] W fun r w'=>r=.returned (.bool (l.any n.is))∧Below W.heap.size W w':=by
 have H:Hid (Calls Tryz.prog 205 #[.slice (some ⟨b,0,none⟩) l.length cap,.func (.func 179) #[.agg #[.int .u8 n.k,.int .i64 n.b,.bool n.s]] #[]] W fun r w'=>(∃z:Int,r=.returned (.int .i64 z)∧(decide (0≤z)=l.any n.is))∧Below W.heap.size W w'):=ixn_any n b l cap W h hl
 clear h
 generalize l.any n.is=bb at *
 go_enter Tryz.func178,Tryz.ntmps178
 go_wp2_with (go_at_call 205;refine H.out.mono ?_;rintro r w1 ⟨⟨z,rfl,hz⟩,hb1⟩;have HB:Hid (Below W.heap.size W w1):=hb1;clear hb1;subst hz)
 go_ret
 exact ⟨by simp,HB.out⟩
set_option maxHeartbeats 1000000 in
theorem fits_any' (n0 n1 n2 n3 n4 n5:Int) (t:ByteArray) (fa fb:Nat) (n:Nd) (tx:ByteArray) (W:World) :
  Calls Tryz.prog 121 #[.agg #[.int .u8 n0,.int .u8 n1,.int .u8 n2,.int .u8 n3,.int .u8 n4,.int .u8 n5,.string t,.func (.func fa) #[] #[],.func (.func fb) #[] #[]],.agg #[.int .u8 n.k,.int .i64 n.b,.bool n.s],.string tx] W fun e w'=>e=.returned (.bool ((t.toList == [] || t.toList == tx.toList) && [n0,n1,n2,n3,n4,n5].any n.is))∧Below W.heap.size W w':=by
 obtain ⟨V,hV⟩:∃V,(W.alloc (.cells #[.int .u8 n0,.int .u8 n1,.int .u8 n2,.int .u8 n3,.int .u8 n4,.int .u8 n5,.string t,.func (.func fa) #[] #[],.func (.func fb) #[] #[]] 132)).alloc (.cells #[.int .u8 n.k,.int .i64 n.b,.bool n.s] 121)=V:=⟨_,rfl⟩
 have hs:(W.alloc (.cells #[.int .u8 n0,.int .u8 n1,.int .u8 n2,.int .u8 n3,.int .u8 n4,.int .u8 n5,.string t,.func (.func fa) #[] #[],.func (.func fb) #[] #[]] 132)).heap.size=W.heap.size+1:=by show (W.heap.push _).size=_;simp
 have hr:V.heap[W.heap.size]?=some (.cells #[.int .u8 n0,.int .u8 n1,.int .u8 n2,.int .u8 n3,.int .u8 n4,.int .u8 n5,.string t,.func (.func fa) #[] #[],.func (.func fb) #[] #[]] 132 (0,0)):=by rw [←hV];exact alloc_at' (new_at W _) _
 have hd:V.heap[W.heap.size+1]?=some (.cells #[.int .u8 n.k,.int .i64 n.b,.bool n.s] 121 (0,0)):=by rw [←hV,←hs];exact new_at _ _
 have hB:Below W.heap.size W V:=by rw [←hV];exact ((Below.refl _ _).alloc (Nat.le_refl _) _).alloc (by omega) _
 have HV:Hid ((W.alloc (.cells #[.int .u8 n0,.int .u8 n1,.int .u8 n2,.int .u8 n3,.int .u8 n4,.int .u8 n5,.string t,.func (.func fa) #[] #[],.func (.func fb) #[] #[]] 132)).alloc (.cells #[.int .u8 n.k,.int .i64 n.b,.bool n.s] 121)=V):=hV
 have HLk:Lk V W.heap.size [n0,n1,n2,n3,n4,n5]:=fun j d hj=>by
  match j,hj with
  |0,hj=>cases hj;exact blk_cell hr rfl
  |1,hj=>cases hj;exact blk_cell hr rfl
  |2,hj=>cases hj;exact blk_cell hr rfl
  |3,hj=>cases hj;exact blk_cell hr rfl
  |4,hj=>cases hj;exact blk_cell hr rfl
  |5,hj=>cases hj;exact blk_cell hr rfl
  |j+6,hj=>simp at hj
 have HC:Hid (∀X,Below V.heap.size V X→Calls Tryz.prog 178 #[.slice (some ⟨W.heap.size,0,none⟩) 6 6,.func (.func 179) #[.agg #[.int .u8 n.k,.int .i64 n.b,.bool n.s]] #[]] X fun r w'=>r=.returned (.bool ([n0,n1,n2,n3,n4,n5].any n.is))∧Below X.heap.size X w'):=fun X hX=>ctn_any n W.heap.size [n0,n1,n2,n3,n4,n5] 6 X (HLk.below hX) (by simp)
 have HF:Hid (∀X,Below V.heap.size V X→Below W.heap.size W X):=fun X hX=>hB.trans (hX.mono hB.size)
 have m6:V.cell? ⟨W.heap.size,6,none⟩=some (.string t):=blk_cell hr rfl
 have m0:V.cell? ⟨W.heap.size+1,0,none⟩=some (.int .u8 n.k):=blk_cell hd rfl
 have m1:V.cell? ⟨W.heap.size+1,1,none⟩=some (.int .i64 n.b):=blk_cell hd rfl
 have m2:V.cell? ⟨W.heap.size+1,2,none⟩=some (.bool n.s):=blk_cell hd rfl
 have HK:Hid (∀X,Below V.heap.size V X→(X.cell? ⟨W.heap.size,6,none⟩=some (.string t)∧X.cell? ⟨W.heap.size+1,0,none⟩=some (.int .u8 n.k)∧X.cell? ⟨W.heap.size+1,1,none⟩=some (.int .i64 n.b)∧X.cell? ⟨W.heap.size+1,2,none⟩=some (.bool n.s)∧Below V.heap.size V X)):=fun X hX=>⟨(hX.cell (blk_lt hr)).trans m6,(hX.cell (blk_lt hd)).trans m0,(hX.cell (blk_lt hd)).trans m1,(hX.cell (blk_lt hd)).trans m2,hX⟩
 have HD:Hid (∀m,Below V.heap.size V (V.drewN m)):=fun m=>bel_dn (Below.refl _ _) m
 clear hr hd hB HLk hs hV
 generalize [n0,n1,n2,n3,n4,n5].any n.is=bb at *
 by_cases hq:(t.toList == [] || t.toList == tx.toList)=true
 ·rw [hq,Bool.true_and]
  by_cases he:(t.toList == [])=true
  ·have p0:t.toList.isEmpty=true:=by simpa using he
   have hc6:∀x:HW (SG V),x.W.cell? ⟨W.heap.size,6,none⟩=some (.string t):=fun x=>cell_up m6 x.h
   have hc0:∀x:HW (SG V),x.W.cell? ⟨W.heap.size+1,0,none⟩=some (.int .u8 n.k):=fun x=>cell_up m0 x.h
   have hc1:∀x:HW (SG V),x.W.cell? ⟨W.heap.size+1,1,none⟩=some (.int .i64 n.b):=fun x=>cell_up m1 x.h
   have hc2:∀x:HW (SG V),x.W.cell? ⟨W.heap.size+1,2,none⟩=some (.bool n.s):=fun x=>cell_up m2 x.h
   have hne:Nonempty (HW (SG V)):=⟨⟨V.drew,(Below.refl _ _).drew⟩⟩
   have hex:∀x:HW (SG V),∃y:HW (SG V),x.W=y.W:=fun x=>⟨x,rfl⟩
   have KT:Hid (∀x:HW (SG V),Calls Tryz.prog 178 #[.slice (some ⟨W.heap.size,0,none⟩) 6 6,.func (.func 179) #[.agg #[.int .u8 n.k,.int .i64 n.b,.bool n.s]] #[]] x.W fun r w'=>r=.returned (.bool bb)∧Below x.W.heap.size x.W w'):=fun x=>HC.out x.W x.h
   clear m6 m0 m1 m2
   go_enter Tryz.func121,Tryz.ntmps121
   go_wp2_with fail
   rw [HV.out]
   refine wp_region_quiet_in (S:=SG V) (by kernel_rfl) (by kernel_rfl) (Below.refl _ _).drew ?_
   repeat (go_big_quiet_step ((go_at_call 178;exact Calls.quiet_in _ (KT.out _) (fun _ _=>SG.keep))))
   refine wpQuiet_nil ?_
   rintro w5 ⟨⟨W5,hS5⟩,rfl⟩
   have HS5:Hid (Below V.heap.size V w5):=hS5
   clear hc0 hc1 hc2 hc6 hS5 hne hex
   go_wp2_with fail
   go_ret
   exact ⟨rfl,HF.out _ HS5.out⟩
  ·have he':(t.toList == [])=false:=by simpa using he
   have p2:(t.toList == tx.toList)=true:=by rw [he',Bool.false_or] at hq;exact hq
   clear he hq
   have hc6:∀x:HW (SG V),x.W.cell? ⟨W.heap.size,6,none⟩=some (.string t):=fun x=>cell_up m6 x.h
   have hc0:∀x:HW (SG V),x.W.cell? ⟨W.heap.size+1,0,none⟩=some (.int .u8 n.k):=fun x=>cell_up m0 x.h
   have hc1:∀x:HW (SG V),x.W.cell? ⟨W.heap.size+1,1,none⟩=some (.int .i64 n.b):=fun x=>cell_up m1 x.h
   have hc2:∀x:HW (SG V),x.W.cell? ⟨W.heap.size+1,2,none⟩=some (.bool n.s):=fun x=>cell_up m2 x.h
   have hne:Nonempty (HW (SG V)):=⟨⟨V.drew,(Below.refl _ _).drew⟩⟩
   have hex:∀x:HW (SG V),∃y:HW (SG V),x.W=y.W:=fun x=>⟨x,rfl⟩
   have KT:Hid (∀x:HW (SG V),Calls Tryz.prog 178 #[.slice (some ⟨W.heap.size,0,none⟩) 6 6,.func (.func 179) #[.agg #[.int .u8 n.k,.int .i64 n.b,.bool n.s]] #[]] x.W fun r w'=>r=.returned (.bool bb)∧Below x.W.heap.size x.W w'):=fun x=>HC.out x.W x.h
   clear m6 m0 m1 m2
   go_enter Tryz.func121,Tryz.ntmps121
   go_wp2_with fail
   rw [HV.out]
   refine wp_region_quiet_in (S:=SG V) (by kernel_rfl) (by kernel_rfl) (Below.refl _ _).drew ?_
   repeat (go_big_quiet_step ((go_at_call 178;exact Calls.quiet_in _ (KT.out _) (fun _ _=>SG.keep))))
   refine wpQuiet_nil ?_
   rintro w5 ⟨⟨W5,hS5⟩,rfl⟩
   have HS5:Hid (Below V.heap.size V w5):=hS5
   clear hc0 hc1 hc2 hc6 hS5 hne hex
   go_wp2_with fail
   go_ret
   exact ⟨rfl,HF.out _ HS5.out⟩
 ·have hq':(t.toList == [] || t.toList == tx.toList)=false:=by simpa using hq
  rw [hq',Bool.false_and]
  rw [Bool.or_eq_false_iff] at hq'
  obtain ⟨p1,p2⟩:=hq'
  clear hq
  go_enter Tryz.func121,Tryz.ntmps121
  go_wp2_with fail
  rw [HV.out]
  go_quiet (fail)
  go_wp2_with fail
  go_ret
  exact ⟨rfl,HF.out _ (HD.out _)⟩
end Go.Proofs.YtpdlohfdjiaegaaGreatDoor
