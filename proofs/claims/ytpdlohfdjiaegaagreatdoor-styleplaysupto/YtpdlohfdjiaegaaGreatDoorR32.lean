import Derived.Test.YtpdlohfdjiaegaaGreatDoorR30
import Derived.Test.YtpdlohfdjiaegaaGreatDoorR31
set_option linter.unusedVariables false
set_option linter.unusedSimpArgs false
namespace Go.Proofs.YtpdlohfdjiaegaaGreatDoor
open Go.RowKit
open Lw (Dc bE rt frm dep rtT rtN dcs au aH)
variable {W:World}{g b:Nat}{st:Sy}{T:TypeId}
theorem lU {α:Type}{p:α->Bool}:∀{l:List α}{j:Nat}{r:α},l[j]?=some r->p r=true->(∀m x,m<j->l[m]?=some x->p x=false)->l.find? p=some r
 |[],j,r,h,_,_=>by simp at h
 |a :: l,0,r,h,hp,_=>by simp at h;subst h;simp [hp]
 |a :: l,j+1,r,h,hp,hno=>by
  have ha:p a=false:=hno 0 a (by omega) rfl;rw [List.find?_cons,ha];exact lU (j:=j) (by simpa using h) hp (fun m x hm hx=>hno (m+1) x (by omega) (by simpa using hx))
theorem vR {α:Type}{p:α->Bool}{l:List α}(hno:∀m x,m<l.length->l[m]?=some x->p x=false):l.find? p=none:=by
 refine BK.2 fun x hx=>?_
 obtain ⟨m,hm,e⟩:=Cd hx;rw [hno m x hm (by rw [hH hm,e])];simp
theorem bY (W:World) (ks:List Int) (T:TypeId):Lkd (W.alloc (.cells (ks.map (Value.int .u8)).toArray T)) (some ⟨W.heap.size,0,none⟩) ks:=by
 intro j x hx;refine ⟨W.heap.size,0,rfl,?_⟩;refine aa (ag W _) ?_;simp [hx]
theorem pX {ks:List Int}(h:W.heap[b]?=some (.cells (ks.map (Value.int .u8)).toArray T (0,0))):Lkd W (some ⟨b,0,none⟩) ks:=by
 intro j x hx;refine ⟨b,0,rfl,?_⟩;refine aa h ?_;simp [hx]
theorem pU {ts:List (List UInt8)}(h:W.heap[b]?=some (.cells (ts.map cU).toArray T (0,0))):Lx2 W (some ⟨b,0,none⟩) (ts.map (fun t=>⟨t.toArray⟩)):=by
 intro j x hx;refine ⟨b,0,rfl,?_⟩;refine aa h ?_;rw [AK] at hx;obtain ⟨y,h1,h2⟩:=BJ.1 hx;simp [h1,<-h2,cU]
theorem RR.row {B:Nat}{W:World}{q n cap:Nat}{L:List Dr}(h:RR B W (.slice (some ⟨q,0,none⟩) n cap) L) {j:Nat}{r:Dr}(hj:L[j]?=some r):∃b1 b2,
  W.cell? ⟨q,j*4,none⟩=some (.slice (some ⟨b1,0,none⟩) r.ns.length r.ns.length)/\W.cell? ⟨q,j*4+1,none⟩=some (.slice (some ⟨b2,0,none⟩) r.ts.length r.ts.length)/\W.cell? ⟨q,j*4+2,none⟩=some (cU r.a)/\W.cell? ⟨q,j*4+3,none⟩=some (cU r.b)/\Lkd W (some ⟨b1,0,none⟩) r.ns/\Lx2 W (some ⟨b2,0,none⟩) (r.ts.map (fun t=>⟨t.toArray⟩)):=by
 obtain ⟨us,h1,h2,h3⟩:=h;have hlt:j<us.length:=by rw [h1];exact (zv.1 hj).1
 obtain ⟨b1,b2,e1,e2,e3⟩:=h2 j us[j] r (hH hlt) hj
 have hlen:∀(k:Nat) (u:List Value),us[k]?=some u->u.length=4:=fun k u hu=>by
  have hk:k<L.length:=by rw [<-h1];exact (zv.1 hu).1
  obtain ⟨_,_,e,_⟩:=h2 k u L[k] hu (hH hk);rw [e];rfl
 have hfl:∀(us:List (List Value)),(∀(k:Nat) (u:List Value),us[k]?=some u->u.length=4)->∀(j i:Nat) (u:List Value) (v:Value),us[j]?=some u->u[i]?=some v->us.flatten[j*4+i]?=some v:=by
  intro us
  induction us with
  |nil=>intro _ j i u v h;simp at h
  |cons a us ih=>
   intro hl j i u v hj hi;have ha:a.length=4:=hl 0 a rfl;cases j with
   |zero=>
    simp at hj;subst hj;rw [List.flatten_cons,DY,zC,zW (zv.1 hi).1];exact hi
   |succ j=>
    rw [List.flatten_cons,zR (by omega),ha];have:=ih (fun k u hk=>hl (k+1) u (by simpa using hk)) j i u v (by simpa using hj) hi;rw [show (j+1)*4+i-4=j*4+i by omega];exact this
 have hc:∀(i:Nat) (v:Value),us[j][i]?=some v->W.cell? ⟨q,j*4+i,none⟩=some v:=fun i v hv=>by
  have:=AZ h3 (g:=q) rfl (j*4+i) v (hfl us hlen j i _ v (hH hlt) hv);rw [AM,zC] at this;exact this
 exact ⟨b1,b2,hc 0 _ (by rw [e1];rfl),hc 1 _ (by rw [e1];rfl),hc 2 _ (by rw [e1];rfl),hc 3 _ (by rw [e1];rfl),pX e2,pU e3⟩
theorem wQ (w:World) (a b:Nat):(w.drewN a).drewN b=w.drewN (a+b):=by unfold World.drewN;simp [A8]
theorem nr:∀r∈bu,r.ns.length<=1000/\r.ts.length<=1000:=by decide +kernel
set_option maxRecDepth 100000 in
set_option maxHeartbeats 4000000 in
theorem nF (n:Nd) (t:Tv) (W:World):Aa 78 #[.agg #[.int .u8 n.k,.int .i64 n.b,.bool n.s],.agg #[.int .u8 t.k,.string t.t,.int .i64 t.a,.int .i64 t.l,.int .i64 t.c,.int .i64 t.f]] W fun r w'=>r=.returned (.tuple #[cU (gJ n t).1,cU (gJ n t).2])/\Below W.heap.size W w':=by
 have HI:Hid (∀(ks:List Int) (ao:Option Addr) (cap:Nat) (k:Int) (V:World),Lkd V ao ks->ks.length<=1000->Aa 77 #[.slice ao ks.length cap,.int .u8 k] V fun r w'=>r=.returned (.bool (ks.contains k))/\w'=V):=fk;have HR:Hid (∀V,Aa 126 #[] V fun r w'=>∃q cap,r=.returned (.slice (some ⟨q,0,none⟩) 36 cap)/\RR V.heap.size w' (.slice (some ⟨q,0,none⟩) 36 cap) bu/\Below V.heap.size V w'):=rD;have HM:Hid (∀(ts:List ByteArray) (ao:Option Addr) (cap:Nat) (x:ByteArray) (V:World),Lx2 V ao ts->ts.length<=1000->Aa 127 #[.slice ao ts.length cap,.string x] V fun r w'=>r=.returned (.bool ((ts.map (fun y=>y.data.toList)).contains x.data.toList))/\w'=V):=pP
 by_cases hk:t.k≠2/\t.k≠6
 ·have HQ:Hid (gJ n t=([],[])):=by show _=_;unfold gJ;rw [zw hk]
  have q1:(t.k != 2)=true:=by simpa using hk.1
  have q2:(t.k != 6)=true:=by simpa using hk.2
  have HB:Hid (∀o o',Below W.heap.size W ((W.alloc o).alloc o')):=fun o o'=>((gt _ _).alloc (eq _) _).alloc (by rw [ge];omega) _
  clear hk
  go_enter Tryz.func78,Tryz.ntmps78
  go_wp2_with fail
  refine zE (v:=.tuple #[.string ⟨#[]⟩,.string ⟨#[]⟩]) (by simp [results,Tryz.f78,go_sem]) rfl ?_;rw [HQ.out];exact ⟨rfl,HB.out _ _⟩
 ·have hk2:t.k=2\/t.k=6:=by omega
  have HD:Hid (gJ n t=fh n t.t.data.toList):=by show _=_;unfold gJ;rw [zu hk];rfl
  rw [HD.out];clear HD hk;obtain ⟨tk,tt,ta,tl,tc,tf⟩:=t;obtain ⟨nk,nb,ns⟩:=n;simp only at hk2 ⊢;obtain ⟨w,hw⟩:∃w,tt.data.toList=w:=⟨_,rfl⟩;have HTW:Hid (tt.data.toList=w):=hw;rw [hw];have HQ0:Hid (jj nk=true->fh ⟨nk,nb,ns⟩ w=([83],[66])):=fun h=>by unfold fh;rw [zw h]
  have HQ1:Hid (jj nk=false->nk=5/\w=[59]->fh ⟨nk,nb,ns⟩ w=if nb=0 then ([],[69,72]) else ([93],[72])):=fun h h2=>by unfold fh;rw [zu (by rw [h];simp),zw h2]
  have HQ2:Hid (jj nk=false->¬(nk=5/\w=[59])->fh ⟨nk,nb,ns⟩ w=iW nk w):=fun h h2=>by unfold fh;rw [zu (by rw [h];simp),zu h2]
  obtain ⟨R,hR⟩:∃R,fh ⟨nk,nb,ns⟩ w=R:=⟨_,rfl⟩;rw [hR] at HQ0 HQ1 HQ2 ⊢
  have HB0:Hid (∀o o':Array Value,((W.alloc (.cells o 138)).alloc (.cells o' 37)).heap[W.heap.size]?=some (.cells o 138 (0,0))/\((W.alloc (.cells o 138)).alloc (.cells o' 37)).heap[W.heap.size+1]?=some (.cells o' 37 (0,0))/\Below W.heap.size W ((W.alloc (.cells o 138)).alloc (.cells o' 37))):=fun o o'=>by
   refine ⟨aB (ag W _) _,?_,((gt _ _).alloc (eq _) _).alloc (by rw [ge];omega) _⟩;rw [show W.heap.size+1=(W.alloc (.cells o 138)).heap.size by rw [ge]];exact ag _ _
  have HO:Hid (([21,22,23,24]:List Int).contains nk=jj nk):=rfl;clear hw hR;obtain ⟨c,hc⟩:∃c,jj nk=c:=⟨_,rfl⟩;rw [hc] at HQ0 HQ1 HQ2 HO;clear hc
  rcases hk2 with rfl|rfl
  all_goals (
   go_enter Tryz.func78,Tryz.ntmps78
   go_upto_region 1 with fail
   refine aA (fun V=>V.heap[W.heap.size]?=some (.cells #[.int .u8 nk,.int .i64 nb,.bool ns] 138 (0,0))/\V.heap[W.heap.size+1]?=some (.cells #[.int .u8 _,.string tt,.int .i64 ta,.int .i64 tl,.int .i64 tc,.int .i64 tf] 37 (0,0))/\Below W.heap.size W V) (HB0.out _ _) ?_;rintro V ⟨hn,ht,hB⟩;have HBV:Hid (∀X,Below V.heap.size V X->Below W.heap.size W X):=fun X hX=>hB.trans (hX.mono hB.size)
   clear hB;obtain ⟨B0,hB0⟩:∃B0,W.heap.size=B0:=⟨_,rfl⟩;rw [hB0] at hn ht ⊢;have x0:=aa (k:=0) hn rfl;have x1:=aa (k:=1) hn rfl;have x2:=aa (k:=2) hn rfl;have y0:=aa (k:=0) ht rfl;have y1:=aa (k:=1) ht rfl;have z0:=ah hn;have z1:=ah ht;clear hn ht hB0 HB0;cases c
   ·by_cases h5:nk=5/\w=[59]
    ·have htt:tt=⟨#[59]⟩:=Lw.fp (by rw [Lw.lsb,HTW.out,h5.2];rfl);obtain ⟨rfl,_⟩:=h5;subst htt
     by_cases hb0:nb=0
     ·have HQ:Hid (R=([],[69,72])):=by show _=_;rw [HQ1.out rfl ⟨rfl,HTW.out.symm.trans rfl⟩,zw hb0]
      subst hb0;clear HQ0 HQ1 HQ2
      go_wp2_with (go_at_call 77;refine (HI.out [21,22,23,24] _ _ _ _ (bY V [21,22,23,24] _) (by decide)).mono ?_;rintro r1 w1 ⟨e1,hw1⟩;rw [HO.out] at e1;subst e1;subst hw1)
      refine zE (v:=.tuple #[.string ⟨#[]⟩,.string ⟨#[69,72]⟩]) (by simp [results,Tryz.f78,go_sem]) rfl ?_;rw [HQ.out];exact ⟨rfl,HBV.out _ ((gt _ _).alloc (eq _) _)⟩
     ·have HQ:Hid (R=([93],[72])):=by show _=_;rw [HQ1.out rfl ⟨rfl,HTW.out.symm.trans rfl⟩,zu hb0]
      have q6:((nb:Int) == 0)=false:=by simp;omega
      clear HQ0 HQ1 HQ2 hb0
      go_wp2_with (go_at_call 77;refine (HI.out [21,22,23,24] _ _ _ _ (bY V [21,22,23,24] _) (by decide)).mono ?_;rintro r1 w1 ⟨e1,hw1⟩;rw [HO.out] at e1;subst e1;subst hw1)
      refine zE (v:=.tuple #[.string ⟨#[93]⟩,.string ⟨#[72]⟩]) (by simp [results,Tryz.f78,go_sem]) rfl ?_;rw [HQ.out];exact ⟨rfl,HBV.out _ ((gt _ _).alloc (eq _) _)⟩
    ·have HQ:Hid (R=iW nk w):=HQ2.out rfl h5;have h5':nk=5->¬tt.toList=[59]:=fun h1 h2=>h5 ⟨h1,by rw [<-HTW.out,<-Lib.toList_data];exact h2⟩
     clear HQ0 HQ1 HQ2
     have HBR:Hid (∀o X,Below (V.alloc o).heap.size (V.alloc o) X->Below W.heap.size W X/\Below V.heap.size V X):=fun o X hX=>by
      have h1:Below V.heap.size V X:=((gt _ _).alloc (eq _) o).trans (hX.mono (by rw [ge];omega));exact ⟨HBV.out _ h1,h1⟩
     have HCE:Hid (∀X,Below V.heap.size V X->X.cell? ⟨B0,0,none⟩=some (.int .u8 nk)/\X.cell? ⟨B0+1,1,none⟩=some (.string tt)):=fun X hX=>⟨(hX.cell z0).trans x0,(hX.cell z1).trans y1⟩
     by_cases h6:nk=5
     all_goals (
      first|(have q6:(nk == 5)=true:=by simpa using h6)|(have q6:(nk == 5)=false:=by simpa using h6)
      first|(have q7:(tt.toList == [59])=false:=by simpa using h5' h6)|skip
      clear h6 h5' h5
      go_upto_block 0 with (first|(go_at_call 77;refine (HI.out [21,22,23,24] _ _ _ _ (bY V [21,22,23,24] _) (by decide)).mono ?_;rintro r1 w1 ⟨e1,hw1⟩;rw [HO.out] at e1;subst e1;subst hw1)|(go_at_call 126;refine (HR.out _).mono ?_;rintro r2 w2 ⟨p2,cp2,rfl,hr2,hb2⟩;obtain ⟨v1,v2⟩:=HBR.out _ _ hb2;obtain ⟨v3,v4⟩:=HCE.out _ v2;have HR2:Hid (∀j r,bu[j]?=some r->∃b1 b2,
  w2.cell? ⟨p2,j*4,none⟩=some (.slice (some ⟨b1,0,none⟩) r.ns.length r.ns.length)/\w2.cell? ⟨p2,j*4+1,none⟩=some (.slice (some ⟨b2,0,none⟩) r.ts.length r.ts.length)/\w2.cell? ⟨p2,j*4+2,none⟩=some (cU r.a)/\w2.cell? ⟨p2,j*4+3,none⟩=some (cU r.b)/\Lkd w2 (some ⟨b1,0,none⟩) r.ns/\Lx2 w2 (some ⟨b2,0,none⟩) (r.ts.map (fun t=>⟨t.toArray⟩))):=(fun j r h=>hr2.row h);have HB2:Hid (Below W.heap.size W w2):=v1;clear hr2 hb2 v1 v2))
      clear HR HBR HCE x0 x1 x2 y0 y1;have HDL:Hid (bu.length=36):=rfl
      go_wp2_with fail
      go_loopw [7] (fun i wr=>∃j:Nat,j<=36/\i=.int .i64 j/\Hid ((∃d,wr=w2.drewN d)/\∀m x,m<j->bu[m]?=some x->x.fits nk w=false)) (fun i _=>36-(intOf i).toNat)
      case atStart=>exact ⟨0,by omega,rfl,⟨0,rfl⟩,fun m x hm=>by omega⟩
      case round=>
       obtain ⟨j,hj,rfl,HJ⟩:=hrel;obtain ⟨⟨d,hwr⟩,hno⟩:=HJ.out;have HWR:Hid (wr=w2.drewN d):=hwr;have v5:wr.cell? ⟨B0,0,none⟩=some (.int .u8 nk):=by rw [hwr];exact v3
       have v6:wr.cell? ⟨B0+1,1,none⟩=some (.string tt):=by rw [hwr];exact v4
       have HBW:Hid (Below W.heap.size W wr):=by rw [hwr];exact bz HB2.out _
       have HCells:Hid (∀a,wr.cell? a=w2.cell? a):=fun a=>by rw [hwr];rfl
       clear hwr
       by_cases hlt:j<36
       ·have q21:(j:Int)<36:=by omega
        have q23:(0:Int)<=j:=by omega
        obtain ⟨x,hx⟩:∃x,bu[j]?=some x:=⟨_,hH (by rw [HDL.out];exact hlt)⟩;obtain ⟨b1,b2,k1,k2,k3,k4,k5,k6⟩:=HR2.out j x hx;rw [<-HCells.out] at k1 k2 k3 k4;replace k5:Lkd wr (some ⟨b1,0,none⟩) x.ns:=fun j y h=>by obtain ⟨b,o,e,f⟩:=k5 j y h;exact ⟨b,o,e,(HCells.out _).trans f⟩
        replace k6:Lx2 wr (some ⟨b2,0,none⟩) (x.ts.map (fun t=>⟨t.toArray⟩)):=fun j y h=>by obtain ⟨b,o,e,f⟩:=k6 j y h;exact ⟨b,o,e,(HCells.out _).trans f⟩
        have hf1:x.fits nk w=(x.ns.contains nk && x.ts.contains w):=rfl
        have hxl:x.ns.length<=1000/\(x.ts.map (fun t=>(⟨t.toArray⟩:ByteArray))).length<=1000:=by
         have:=nr x (Ah hx);rw [C3];exact this
        have hm2:((x.ts.map (fun t=>(⟨t.toArray⟩:ByteArray))).map (fun y=>y.data.toList)).contains tt.data.toList=x.ts.contains w:=by
         rw [HTW.out,List.map_map]
         congr 1
         exact List.map_id' _
        have HC1:Hid (∀q,Aa 77 #[.slice (some ⟨b1,0,none⟩) x.ns.length x.ns.length,.int .u8 nk] (wr.drewN q) fun r w'=>r=.returned (.bool (x.ns.contains nk))/\w'=wr.drewN q):=fun q=>HI.out x.ns _ _ nk _ k5 hxl.1
        have HC2:Hid (∀q,Aa 127 #[.slice (some ⟨b2,0,none⟩) x.ts.length x.ts.length,.string tt] (wr.drewN q) fun r w'=>r=.returned (.bool (x.ts.contains w))/\w'=wr.drewN q):=fun q=>by
         have:=HM.out (x.ts.map (fun t=>(⟨t.toArray⟩:ByteArray))) (some ⟨b2,0,none⟩) x.ts.length tt (wr.drewN q) (fun j x h=>k6 j x h) hxl.2;rw [hm2,C3] at this;exact this
        obtain ⟨c1,hc1⟩:∃c,x.ns.contains nk=c:=⟨_,rfl⟩;obtain ⟨c2,hc2⟩:∃c,x.ts.contains w=c:=⟨_,rfl⟩;rw [hc1,hc2] at hf1;rw [hc1] at HC1;rw [hc2] at HC2
        have HNo:Hid ((c1 && c2)=false->∀m y,m<j+1->bu[m]?=some y->y.fits nk w=false):=fun hcc m y hm hy=>by
         by_cases e2:m=j
         ·subst e2;rw [hx] at hy;cases hy;rw [hf1];exact hcc
         ·exact hno m y (by omega) hy
        have HYes:Hid ((c1 && c2)=true->R=(x.a,x.b)):=fun hcc=>by
         rw [HQ.out];unfold iW;rw [lU hx (by rw [hf1];exact hcc) hno]
        clear hf1 hm2 hxl hc1 hc2 k5 k6 hno HJ hx;cases c1
        ·go_wp2_with fail
         go_quiet (first|(go_at_call 77;exact Calls.quiet_of_same (HC1.out _))|(go_at_call 127;exact Calls.quiet_of_same (HC2.out _)))
         go_wp2_with fail
         exact ⟨⟨j+1,hlt,by go_num,⟨_,by rw [HWR.out];exact wQ _ _ _⟩,HNo.out rfl⟩,by simp [intOf];omega⟩
        ·cases c2
         ·go_wp2_with fail
          go_quiet (first|(go_at_call 77;exact Calls.quiet_of_same (HC1.out _))|(go_at_call 127;exact Calls.quiet_of_same (HC2.out _)))
          go_wp2_with fail
          exact ⟨⟨j+1,hlt,by go_num,⟨_,by rw [HWR.out];exact wQ _ _ _⟩,HNo.out rfl⟩,by simp [intOf];omega⟩
         ·unfold cU at k3 k4
          go_wp2_with fail
          go_quiet (first|(go_at_call 77;exact Calls.quiet_of_same (HC1.out _))|(go_at_call 127;exact Calls.quiet_of_same (HC2.out _)))
          go_wp2_with fail
          go_quiet (fail)
          go_wp2_with fail
          refine zE (v:=.tuple #[cU x.a,cU x.b]) (by simp [results,Tryz.f78,go_sem,cU]) rfl ?_;rw [HYes.out rfl];exact ⟨rfl,by first|exact bz HBW.out _|exact bz (bz HBW.out _) _⟩
       ·obtain rfl:j=36:=by omega
        have HN:Hid (R=([],[])):=by
         show _=_
         rw [HQ.out];unfold iW;rw [vR (fun m y hm hy=>hno m y (by rw [HDL.out] at hm;exact hm) hy)]
        clear HJ hno
        go_wp2_with fail
        refine zE (v:=.tuple #[.string ⟨#[]⟩,.string ⟨#[]⟩]) (by simp [results,Tryz.f78,go_sem]) rfl ?_;rw [HN.out];exact ⟨rfl,HBW.out⟩)
   ·have HQ:Hid (R=([83],[66])):=HQ0.out rfl;clear HQ0 HQ1 HQ2
    go_wp2_with (go_at_call 77;refine (HI.out [21,22,23,24] _ _ _ _ (bY V [21,22,23,24] _) (by decide)).mono ?_;rintro r1 w1 ⟨e1,hw1⟩;rw [HO.out] at e1;subst e1;subst hw1)
    refine zE (v:=.tuple #[.string ⟨#[83]⟩,.string ⟨#[66]⟩]) (by simp [results,Tryz.f78,go_sem]) rfl ?_;rw [HQ.out];exact ⟨rfl,HBV.out _ ((gt _ _).alloc (eq _) _)⟩)
def DA (S:Nat->Prop) (g:Nat) (W W':World) (v:Value) (l:List Dc) (st:Sy):Prop:=
 (∃S',DS S' W' g st/\(∀k,S' k->S k\/W.heap.size<=k)/\∀k,v.ownBlock=some k->(S k\/W.heap.size<=k)/\¬S' k)/\Rof W' v l/\Kp S W W'
theorem DA.first {S:Nat->Prop}{V W2:World}{v:Value}{l:List Dc}(hb:Below W.heap.size W V) (h:DA S g V W2 v l st):DA S g W W2 v l st:=by
 obtain ⟨⟨S1,a1,a2,a3⟩,hr,hk⟩:=h;exact ⟨⟨S1,a1,fun k hs=>(a2 k hs).imp id (fun e=>zr hb.size e),fun k e=>⟨(a3 k e).1.imp id (fun e=>zr hb.size e),(a3 k e).2⟩⟩,hr,(Kp.of_below hb).step hk (fun _ _ h=>h)⟩
theorem DS.cells' {S:Nat->Prop}(h:DS S W g st):∃p c p2 c2,W.cell? ⟨g,0,none⟩=some (.slice p st.ns.length c)/\W.cell? ⟨g,1,none⟩=some (.slice p2 st.ws.length c2)/\W.cell? ⟨g,2,none⟩=some (.int .i64 (lw st.mr))/\W.cell? ⟨g,3,none⟩=some (.bool st.wr)/\W.cell? ⟨g,4,none⟩=some (.bool st.en)/\W.cell? ⟨g,5,none⟩=some (.bool st.pt)/\W.cell? ⟨g,6,none⟩=some (.bool false)/\Rof W (.slice p2 st.ws.length c2) st.ws/\∀j,W.frozen? ⟨g,j,none⟩=false:=by
 obtain ⟨vn,vw,hv,s1,s2⟩:=h.ex;obtain ⟨p,c,e,_⟩:=av hv.rn;obtain ⟨p2,c2,e2,_⟩:=hv.ro.shape;subst e e2;obtain ⟨c0,c1,c2,c3,c4,c5,c6⟩:=hv.sb.cells;exact ⟨p,c,p2,_,c0,c1,c2,c3,c4,c5,c6,hv.ro,hv.sb.frozen⟩
theorem nN {S:Nat->Prop}(h:DS S W g st) (k:Int) (m:Nat) (hm:m<=st.ws.length) (hl:st.ws.length<=1000000000) :
  Aa 39 #[spg g,.int .u8 k,.int .i64 m] W fun r w'=>r=.returned (.bool ((st.ws.take m).any (smK k)))/\Below W.heap.size W w':=by
 obtain ⟨p,c,p2,c2,c0,c1,_,_,_,_,_,hro,_⟩:=h.cells';exact kM hro c1 k m hm (by omega)
def jQ (w:World) (g:Nat):World:=((((w.setCell ⟨g,1,none⟩ (.slice none 0 0)).setCell ⟨g,2,none⟩ (.int .i64 (-1))).setCell ⟨g,3,none⟩ (.bool true)).setCell ⟨g,4,none⟩ (.bool false)).setCell ⟨g,5,none⟩ (.bool false)
theorem sP {S:Nat->Prop}{Wx w3:World}(h:DS S W g st) {p2:Option Addr}{n2 c2:Nat}(hc:W.cell? ⟨g,1,none⟩=some (.slice p2 n2 c2)) (hb:Below W.heap.size W Wx) {v:Value}{l:List Dc}(hr:Rof w3 v l) (hk:Kp (fun k=>(Value.slice p2 n2 c2).ownBlock=some k) Wx w3) (hn:Nb Wx (.slice p2 n2 c2) v) :
  (∀j,w3.frozen? ⟨g,j,none⟩=false)/\(∀j u,j<7->j≠1->W.cell? ⟨g,j,none⟩=some u->w3.cell? ⟨g,j,none⟩=some u)/\w3.cell? ⟨g,1,none⟩=some (.slice p2 n2 c2)/\DA S g W (jQ w3 g) v l ⟨st.ns,[],none,true,false,false⟩:=by
 obtain ⟨vn,vw,hv,s1,s2⟩:=h.ex;have e1:vw=.slice p2 n2 c2:=zT (hv.sb.cells.2.1.symm.trans hc);subst e1;have k1:=hv.below hb;have hne:¬(Value.slice p2 n2 c2).ownBlock=some g:=k1.ro.ne k1.sb (by decide);have h3:=k1.sb.kp hk hne;have n3:=hk.row k1.rn (fun k e1 e2=>iE k1.rn k1.ro (by decide) k e1 e2);have hkS:Kp (fun k=>k=g) w3 (jQ w3 g):=((((Kp.set _ _ _ _).trans (Kp.set _ _ _ _)).trans (Kp.set _ _ _ _)).trans (Kp.set _ _ _ _)).trans (Kp.set _ _ _ _);have hkW:Kp S W (jQ w3 g):=((Kp.of_below hb).step hk (fun k _ e=>s2 k e)).step hkS (fun k _ e=>by rw [e];exact h.sg);have hdb:DB (jQ w3 g) g vn (.slice none 0 0) (-1) true false false false:=af (af (af (af (af h3 1 _) 2 _) 3 _) 4 _) 5 _;have hrn:Rn tM (jQ w3 g) vn st.ns:=hkS.row n3 (fun k e1 e2=>ay n3 h3 (by decide) (by rw [e1,e2]));have hro:Rof (jQ w3 g) v l:=hr.kp hkS (fun k e1 e2=>hr.ne h3 (by decide) (by rw [e1,e2]));refine ⟨h3.frozen,fun j u hj hj1 hu=>?_,aa h3 rfl,⟨fun k=>k=g\/vn.ownBlock=some k,⟨⟨vn,.slice none 0 0,⟨hdb,hrn,fj _⟩,fun k e=>.inr e,fun k e=>by cases e⟩,.inl rfl,fun k e=>?_⟩,fun k e=>?_,fun k e=>⟨?_,?_⟩⟩,hro,hkW⟩
 ·have hcl:=hv.sb.cells;obtain ⟨c0,c1,c2,c3,c4,c5,c6⟩:=h3.cells;obtain ⟨d0,d1,d2,d3,d4,d5,d6⟩:=hcl
  match j,hj,hj1 with
  |0,_,_=>rw [d0] at hu;rw [c0];exact hu
  |1,_,h=>exact absurd rfl h
  |2,_,_=>rw [d2] at hu;rw [c2];exact hu
  |3,_,_=>rw [d3] at hu;rw [c3];exact hu
  |4,_,_=>rw [d4] at hu;rw [c4];exact hu
  |5,_,_=>rw [d5] at hu;rw [c5];exact hu
  |6,_,_=>rw [d6] at hu;rw [c6];exact hu
  |j+7,h,_=>omega
 ·rcases e with e|e
  ·rw [e];exact hdb.lt
  ·exact bS hrn k e
 ·rcases e with e|e
  ·rw [e];exact .inl h.sg
  ·exact .inl (s1 k e)
 ·rcases hn with hn|⟨q,hq,hq2⟩
  ·exact .inl (s2 k (by rw [<-hn];exact e))
  ·rw [hq] at e;cases e;exact .inr (zr hb.size hq2)
 ·rintro (e2|e2)
  ·exact hr.ne h3 (by decide) (by rw [e,e2])
  ·exact iE hrn hro (by decide) k e2 e
theorem DA.waits {S:Nat->Prop}{g:Nat}{W W1:World}{v:Value}{l:List Dc}{st:Sy}(h:DA S g W W1 v l st) {n:Nd}{r:List Nd}(hne:st.ns=n :: r) (ps:List Pz) (hf:∀p∈ps,p.few=true) (t:ByteArray) (ht:t.data.toList=ps.map pzb) (hl:ps.length<=10) (hb:Bdd 1000000000 st) :
  Aa 76 #[spg g,.string t] W1 fun r w'=>r=.returned (.tuple #[])/\DA S g W w' v l (st.aws ps):=by
 obtain ⟨⟨S1,a1,a2,a3⟩,hr,hk⟩:=h;refine (cM a1 hne ps hf t ht hl hb).mono ?_;rintro rr w' ⟨e,⟨S2,b1,b2⟩,hk2⟩;refine ⟨e,⟨S2,b1,fun k hs=>?_,fun k hv=>⟨(a3 k hv).1,fun hs=>?_⟩⟩,hr.kp hk2 (fun k hv hs=>(a3 k hv).2 hs),hk.step hk2 (fun k hlt hs=>?_)⟩
 ·rcases b2 k hs with e|e
  ·exact a2 k e
  ·exact .inr (zr hk.size e)
 ·rcases b2 k hs with e|e
  ·exact (a3 k hv).2 e
  ·have:=hr.lt k hv;omega
 ·rcases a2 k hs with e|e
  ·exact e
  ·omega
theorem DM.seqA {S:Nat->Prop}{W1:World}(h:DM S g W W1 st):∃S1,DS S1 W1 g st/\∀W2 v l st2,DA S1 g W1 W2 v l st2->DA S g W W2 v l st2:=by
 obtain ⟨⟨S1,s1,s2⟩,hk⟩:=h;refine ⟨S1,s1,?_⟩;rintro W2 v l st2 ⟨⟨S2,t1,t2,t3⟩,hr,hk2⟩;exact ⟨⟨S2,t1,fun k hs=>(t2 k hs).elim (s2 k) (fun e=>.inr (zr hk.size e)),fun k e=>⟨(t3 k e).1.elim (s2 k) (fun e=>.inr (zr hk.size e)),(t3 k e).2⟩⟩,hr,hk.step hk2 (fun k hlt hs=>(s2 k hs).elim id (fun e=>by omega))⟩
end Go.Proofs.YtpdlohfdjiaegaaGreatDoor
