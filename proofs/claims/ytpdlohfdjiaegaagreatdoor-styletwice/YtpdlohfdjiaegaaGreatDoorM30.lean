import Derived.Laws.EntriesVeiled
import Derived.Test.YtpdlohfdjiaegaaGreatDoorM29
set_option linter.unusedVariables false
set_option linter.unusedSimpArgs false
set_option maxHeartbeats 1000000
set_option maxRecDepth 100000
namespace Go.Proofs.YtpdlohfdjiaegaaGreatDoor
open Go.RowKit
open Lw (Dc bE rt frm dep rtT rtN dcs aD bk)
theorem qc:tab.length=40:=by decide
theorem qb:∀r∈tab,r.ns.length=6:=by decide
theorem six {l:List Int}(h:l.length=6):∃a b c d e f,l=[a,b,c,d,e,f]:=by
 match l,h with
 |[a,b,c,d,e,f],_=>exact ⟨a,b,c,d,e,f,rfl⟩
def Rw.v (r:Rw):Value:=.agg r.cs.toArray
theorem yH (w:World):∀k,k<40->(Instr.index 184 (Value.agg eH.toArray) (.int .i64 (k:Nat))).run Tryz.prog w=.ok (tab.getD k rw0).v w
 |0,_=>by kernel_rfl
 |1,_=>by kernel_rfl
 |2,_=>by kernel_rfl
 |3,_=>by kernel_rfl
 |4,_=>by kernel_rfl
 |5,_=>by kernel_rfl
 |6,_=>by kernel_rfl
 |7,_=>by kernel_rfl
 |8,_=>by kernel_rfl
 |9,_=>by kernel_rfl
 |10,_=>by kernel_rfl
 |11,_=>by kernel_rfl
 |12,_=>by kernel_rfl
 |13,_=>by kernel_rfl
 |14,_=>by kernel_rfl
 |15,_=>by kernel_rfl
 |16,_=>by kernel_rfl
 |17,_=>by kernel_rfl
 |18,_=>by kernel_rfl
 |19,_=>by kernel_rfl
 |20,_=>by kernel_rfl
 |21,_=>by kernel_rfl
 |22,_=>by kernel_rfl
 |23,_=>by kernel_rfl
 |24,_=>by kernel_rfl
 |25,_=>by kernel_rfl
 |26,_=>by kernel_rfl
 |27,_=>by kernel_rfl
 |28,_=>by kernel_rfl
 |29,_=>by kernel_rfl
 |30,_=>by kernel_rfl
 |31,_=>by kernel_rfl
 |32,_=>by kernel_rfl
 |33,_=>by kernel_rfl
 |34,_=>by kernel_rfl
 |35,_=>by kernel_rfl
 |36,_=>by kernel_rfl
 |37,_=>by kernel_rfl
 |38,_=>by kernel_rfl
 |39,_=>by kernel_rfl
 |k+40,h=>absurd h (by omega)
theorem zE (a b c d e f:Int) (t:List UInt8) (x y:Fx):(Rw.mk [a,b,c,d,e,f] t x y).v=.agg #[.int .u8 a,.int .u8 b,.int .u8 c,.int .u8 d,.int .u8 e,.int .u8 f,.string ⟨t.toArray⟩,.func (.func x.id) #[] #[],.func (.func y.id) #[] #[]]:=rfl
theorem v8 (r:Rw) {a b c d e f:Int}(hr:r.ns=[a,b,c,d,e,f]) (n:Nd) (tx:ByteArray) (W:World) :
  Da 121 #[.agg #[.int .u8 a,.int .u8 b,.int .u8 c,.int .u8 d,.int .u8 e,.int .u8 f,.string ⟨r.t.toArray⟩,.func (.func r.a.id) #[] #[],.func (.func r.b.id) #[] #[]],.agg #[.int .u8 n.k,.int .i64 n.b,.bool n.s],.string tx] W fun e w'=>e=.returned (.bool (r.fits n tx))/\Below W.heap.size W w':=by
 have h1:(⟨r.t.toArray⟩:ByteArray).toList=r.t:=by rw [Lib.toList_data]
 have h2:tx.toList=tx.data.toList:=Lib.toList_data tx
 have he:r.fits n tx=(((⟨r.t.toArray⟩:ByteArray).toList == [] || (⟨r.t.toArray⟩:ByteArray).toList == tx.toList) && [a,b,c,d,e,f].any n.is):=by
  unfold Rw.fits;rw [h1,h2,hr]
  congr 2
  ·by_cases q:r.t=[] <;> simp [q]
  ·by_cases q:r.t=tx.data.toList <;> simp [q]
 rw [he];exact s9 a b c d e f ⟨r.t.toArray⟩ r.a.id r.b.id n tx W
theorem tc {α:Type}(p:α->Bool) (l:List α) (k:Nat) (x:α) (hx:l[k]?=some x) (h:(l.take k).find? p=none) (hp:p x=false):(l.take (k+1)).find? p=none:=by
 rw [List.take_add_one,hx,List.find?_append,h];simp [hp]
theorem yQ {α:Type}(p:α->Bool) (l:List α) (k:Nat) (x:α) (hx:l[k]?=some x) (h:(l.take k).find? p=none) (hp:p x=true):l.find? p=some x:=by
 have hlt:=(List.getElem?_eq_some_iff.1 hx).1
 have e:l=l.take k++x :: l.drop (k+1):=by
  have:=List.drop_eq_getElem_cons hlt;rw [(List.getElem?_eq_some_iff.1 hx).2] at this;rw [<-this,List.take_append_drop]
 rw [e,List.find?_append,h];simp [hp]
theorem sf (n:Nd) (t:Tv) (W:World) (hk:t.k=2\/t.k=6) :
  Da 70 #[.agg #[.int .u8 n.k,.int .i64 n.b,.bool n.s],.agg #[.int .u8 t.k,.string t.t,.int .i64 t.a,.int .i64 t.l,.int .i64 t.c,.int .i64 t.f]] W fun e w'=>e=.returned (au n t).v/\Below W.heap.size W w':=by
 have HTab:Hid (∀V,Da 120 #[] V fun e w'=>e=.returned (.agg eH.toArray)/\Below V.heap.size V w'):=rN;have q1:(t.k == 2)=true\/((t.k == 2)=false/\(t.k == 6)=true):=by rcases hk with h|h <;> simp [h]
 go_enter Tryz.func70,Tryz.ntmps70
 go_upto_region 1 with fail
 go_cut [14] from 7 to 14 (fun t9 wx=>t9=.bool true/\wx=(((W.alloc (.cells #[.int .u8 n.k,.int .i64 n.b,.bool n.s] 121)).alloc (.cells #[.int .u8 t.k,.string t.t,.int .i64 t.a,.int .i64 t.l,.int .i64 t.c,.int .i64 t.f] 37)).alloc (.cells #[.int .u8 0,.int .u8 0,.int .u8 0,.int .u8 0,.int .u8 0,.int .u8 0,.string ⟨#[]⟩,.nilFunc,.nilFunc] 132)))
 case first=>
  rcases q1 with q1|⟨q1,q2⟩
  ·go_wp2_with fail
   go_meet
   exact ⟨rfl,rfl⟩
  ·go_wp2_with fail
   go_meet
   exact ⟨rfl,rfl⟩
 case rest=>
 obtain ⟨rfl,hwc⟩:=hcut;obtain ⟨V,hV⟩:∃V,V=wc:=⟨wc,rfl⟩;subst hV;have hsz1:(W.alloc (.cells #[.int .u8 n.k,.int .i64 n.b,.bool n.s] 121)).heap.size=W.heap.size+1:=by show (W.heap.push _).size=_;simp
 have hsz2:((W.alloc (.cells #[.int .u8 n.k,.int .i64 n.b,.bool n.s] 121)).alloc (.cells #[.int .u8 t.k,.string t.t,.int .i64 t.a,.int .i64 t.l,.int .i64 t.c,.int .i64 t.f] 37)).heap.size=W.heap.size+1+1:=by show ((W.heap.push _).push _).size=_;simp
 have hN:V.heap[W.heap.size]?=some (.cells #[.int .u8 n.k,.int .i64 n.b,.bool n.s] 121 (0,0)):=by rw [hwc];exact ay (ay (am _ _) _) _
 have hTk:V.heap[W.heap.size+1]?=some (.cells #[.int .u8 t.k,.string t.t,.int .i64 t.a,.int .i64 t.l,.int .i64 t.c,.int .i64 t.f] 37 (0,0)):=by rw [hwc,<-hsz1];exact ay (am _ _) _
 have hRs:V.heap[W.heap.size+1+1]?=some (.cells #[.int .u8 0,.int .u8 0,.int .u8 0,.int .u8 0,.int .u8 0,.int .u8 0,.string ⟨#[]⟩,.nilFunc,.nilFunc] 132 (0,0)):=by rw [hwc,<-hsz2];exact am _ _
 have hBV:Below W.heap.size W V:=by rw [hwc];exact (((Below.refl _ _).alloc (Nat.le_refl _) _).alloc (by omega) _).alloc (by omega) _
 clear hsz1 hsz2 hwc
 go_upto_if 14 with fail
 go_wp2_with (go_at_call 120;refine (HTab.out _).mono ?_;rintro e w1 ⟨rfl,hb1⟩;have HB1:=show Hid (Below V.heap.size V w1) from hb1;clear hb1)
 go_loopw [6,16] (fun _ i wr=>∃k:Nat,k<=40/\i=.int .i64 k/\Hid ((tab.take k).find? (fun r=>r.fits n t.t)=none)/\Hid (Below V.heap.size V wr)) (fun _ i _=>40-(intOf i).toNat)
 case atStart=>exact ⟨0,by omega,rfl,by show _=_;simp,HB1.out⟩
 case round=>
  obtain ⟨k,hk40,rfl,HI,HB⟩:=hrel
  by_cases hlt:k<40
  ·have q3:(k:Int)<40:=by omega
   have q4:(0:Int)<=k:=by omega
   obtain ⟨x,hx⟩:∃x,tab[k]?=some x:=⟨_,List.getElem?_eq_getElem (by rw [qc];exact hlt)⟩;obtain ⟨a,b,c,d,e,f,hsix⟩:=six (qb x (List.mem_of_getElem? hx))
   have hxv:x.v=.agg #[.int .u8 a,.int .u8 b,.int .u8 c,.int .u8 d,.int .u8 e,.int .u8 f,.string ⟨x.t.toArray⟩,.func (.func x.a.id) #[] #[],.func (.func x.b.id) #[] #[]]:=by
    have:x=⟨[a,b,c,d,e,f],x.t,x.a,x.b⟩:=by rw [<-hsix]
    rw [this];exact zE _ _ _ _ _ _ _ _ _
   have hix:(Instr.index 184 (Value.agg eH.toArray) (.int .i64 (k:Nat))).run Tryz.prog wr=.ok (.agg #[.int .u8 a,.int .u8 b,.int .u8 c,.int .u8 d,.int .u8 e,.int .u8 f,.string ⟨x.t.toArray⟩,.func (.func x.a.id) #[] #[],.func (.func x.b.id) #[] #[]]) wr:=by
    rw [yH wr k hlt,List.getD_eq_getElem?_getD,hx,<-hxv];rfl
   have HFt:Hid (∀X,Da 121 #[.agg #[.int .u8 a,.int .u8 b,.int .u8 c,.int .u8 d,.int .u8 e,.int .u8 f,.string ⟨x.t.toArray⟩,.func (.func x.a.id) #[] #[],.func (.func x.b.id) #[] #[]],.agg #[.int .u8 n.k,.int .i64 n.b,.bool n.s],.string t.t] X fun e w'=>e=.returned (.bool (x.fits n t.t))/\Below X.heap.size X w'):=v8 x hsix n t.t;obtain ⟨U,hU⟩:∃U,wr.alloc (.cells #[.int .u8 a,.int .u8 b,.int .u8 c,.int .u8 d,.int .u8 e,.int .u8 f,.string ⟨x.t.toArray⟩,.func (.func x.a.id) #[] #[],.func (.func x.b.id) #[] #[]] 132)=U:=⟨_,rfl⟩;have hUb:Below wr.heap.size wr U:=by rw [<-hU];exact (Below.refl _ _).alloc (Nat.le_refl _) _
   have hUr:U.heap[wr.heap.size]?=some (.cells #[.int .u8 a,.int .u8 b,.int .u8 c,.int .u8 d,.int .u8 e,.int .u8 f,.string ⟨x.t.toArray⟩,.func (.func x.a.id) #[] #[],.func (.func x.b.id) #[] #[]] 132 (0,0)):=by rw [<-hU];exact am _ _
   have hVU:Below V.heap.size V U:=HB.out.trans (hUb.mono HB.out.size);have hNU:=ab hN hVU;have hTU:=ab hTk hVU;have hRU:=ab hRs hVU;have HUU:=show Hid (wr.alloc (.cells #[.int .u8 a,.int .u8 b,.int .u8 c,.int .u8 d,.int .u8 e,.int .u8 f,.string ⟨x.t.toArray⟩,.func (.func x.a.id) #[] #[],.func (.func x.b.id) #[] #[]] 132)=U) from hU
   clear hU hUb
   go_upto_region 5 with fail
   rw [HUU.out];have l0:=aa (k:=0) hUr rfl;have l1:=aa (k:=1) hUr rfl;have l2:=aa (k:=2) hUr rfl;have l3:=aa (k:=3) hUr rfl;have l4:=aa (k:=4) hUr rfl;have l5:=aa (k:=5) hUr rfl;have l6:=aa (k:=6) hUr rfl;have l7:=aa (k:=7) hUr rfl;have l8:=aa (k:=8) hUr rfl;have n0:=aa (k:=0) hNU rfl;have n1:=aa (k:=1) hNU rfl;have n2:=aa (k:=2) hNU rfl;have k1:=aa (k:=1) hTU rfl;have HVU:=show Hid (Below V.heap.size V U) from hVU
   by_cases hfit:x.fits n t.t=true
   ·have hro:au n t=x:=by unfold au;rw [if_pos hk,yQ _ tab k x hx HI.out hfit];rfl
    have HRo:=show Hid ((au n t).v=.agg #[.int .u8 a,.int .u8 b,.int .u8 c,.int .u8 d,.int .u8 e,.int .u8 f,.string ⟨x.t.toArray⟩,.func (.func x.a.id) #[] #[],.func (.func x.b.id) #[] #[]]) from (by rw [hro];exact hxv)
    rw [hfit] at HFt;have HAll:=show Hid (U.heap[wr.heap.size]?=some (.cells #[.int .u8 a,.int .u8 b,.int .u8 c,.int .u8 d,.int .u8 e,.int .u8 f,.string ⟨x.t.toArray⟩,.func (.func x.a.id) #[] #[],.func (.func x.b.id) #[] #[]] 132 (0,0))/\U.heap[W.heap.size+1+1]?=some (.cells #[.int .u8 0,.int .u8 0,.int .u8 0,.int .u8 0,.int .u8 0,.int .u8 0,.string ⟨#[]⟩,.nilFunc,.nilFunc] 132 (0,0))) from ⟨hUr,hRU⟩
    have HBV:=show Hid (Below W.heap.size W V/\W.heap.size<=W.heap.size+1+1) from ⟨hBV,by omega⟩
    clear hxv hsix hix hUr hVU hNU hTU hRU hN hTk hRs hBV hro hx HI hfit HTab
    go_upto_region 6 with (go_at_call 121;refine (HFt.out _).mono ?_;rintro e9 w9 ⟨rfl,hb9⟩)
    obtain ⟨hA1,hA2⟩:=HAll.out;have hA1':=ab hA1 hb9;have hA2':=ab hA2 hb9;have HFin:=show Hid (w9.heap[W.heap.size+1+1]?=some (.cells #[.int .u8 0,.int .u8 0,.int .u8 0,.int .u8 0,.int .u8 0,.int .u8 0,.string ⟨#[]⟩,.nilFunc,.nilFunc] 132 (0,0))/\Below W.heap.size W w9) from ⟨hA2',HBV.out.1.trans ((HVU.out.trans (hb9.mono HVU.out.size)).mono HBV.out.1.size)⟩
    have p0:=aa (k:=0) hA1' rfl;have p1:=aa (k:=1) hA1' rfl;have p2:=aa (k:=2) hA1' rfl;have p3:=aa (k:=3) hA1' rfl;have p4:=aa (k:=4) hA1' rfl;have p5:=aa (k:=5) hA1' rfl;have p6:=aa (k:=6) hA1' rfl;have p7:=aa (k:=7) hA1' rfl;have p8:=aa (k:=8) hA1' rfl;have s0:=aa (k:=0) hA2' rfl;have s1:=aa (k:=1) hA2' rfl;have s2:=aa (k:=2) hA2' rfl;have s3:=aa (k:=3) hA2' rfl;have s4:=aa (k:=4) hA2' rfl;have s5:=aa (k:=5) hA2' rfl;have s6:=aa (k:=6) hA2' rfl;have s7:=aa (k:=7) hA2' rfl;have s8:=aa (k:=8) hA2' rfl;have f0:=fun j=>ak (k:=j) hA2'
    clear hA1 hA2 hA1' hA2' hb9 l0 l1 l2 l3 l4 l5 l6 l7 l8 n0 n1 n2 k1 HFt
    go_wp2_with fail
    obtain ⟨hA2',hbF⟩:=HFin.out;have h9:=af (af (af (af (af (af (af (af (af hA2' 0 (.int .u8 a)) 1 (.int .u8 b)) 2 (.int .u8 c)) 3 (.int .u8 d)) 4 (.int .u8 e)) 5 (.int .u8 f)) 6 (.string ⟨x.t.toArray⟩)) 7 (.func (.func x.a.id) #[] #[])) 8 (.func (.func x.b.id) #[] #[]);have h9:=h9.trans (show _=some (Obj.cells #[.int .u8 a,.int .u8 b,.int .u8 c,.int .u8 d,.int .u8 e,.int .u8 f,.string ⟨x.t.toArray⟩,.func (.func x.a.id) #[] #[],.func (.func x.b.id) #[] #[]] 132 (0,0)) by kernel_rfl);have hld:=run_loadVar_row (P:=Tryz.prog) _ (W.heap.size+1+1) 132 132 _ (0,0) _ h9 Tryz.underlying132 (by first|rfl|kernel_rfl) (by first|rfl|kernel_rfl);refine bodyPost_ret (v:=.agg #[.int .u8 a,.int .u8 b,.int .u8 c,.int .u8 d,.int .u8 e,.int .u8 f,.string ⟨x.t.toArray⟩,.func (.func x.a.id) #[] #[],.func (.func x.b.id) #[] #[]]) (dD (a:=4) (t:=132) (ad:=⟨W.heap.size+1+1,0,none⟩) (by kernel_rfl) (by rfl) hld) rfl ?_;refine ⟨by rw [HRo.out],?_⟩;have hle:=HBV.out.2;exact ((((((((hbF.setCell (p:=⟨W.heap.size+1+1,0,none⟩) hle _).setCell (p:=⟨W.heap.size+1+1,1,none⟩) hle _).setCell (p:=⟨W.heap.size+1+1,2,none⟩) hle _).setCell (p:=⟨W.heap.size+1+1,3,none⟩) hle _).setCell (p:=⟨W.heap.size+1+1,4,none⟩) hle _).setCell (p:=⟨W.heap.size+1+1,5,none⟩) hle _).setCell (p:=⟨W.heap.size+1+1,6,none⟩) hle _).setCell (p:=⟨W.heap.size+1+1,7,none⟩) hle _).setCell (p:=⟨W.heap.size+1+1,8,none⟩) hle _
   ·have hfit':x.fits n t.t=false:=by simpa using hfit
    have HNx:=show Hid ((tab.take (k+1)).find? (fun r=>r.fits n t.t)=none) from tc _ tab k x hx HI.out hfit'
    rw [hfit'] at HFt;clear hxv hsix hix hUr hVU hNU hTU hRU hN hTk hRs hBV hx HI hfit hfit' HTab
    go_wp2_with (go_at_call 121;refine (HFt.out _).mono ?_;rintro e9 w9 ⟨rfl,hb9⟩;have HB9:=show Hid (Below V.heap.size V w9) from HVU.out.trans (hb9.mono HVU.out.size);clear hb9)
    exact ⟨⟨k+1,hlt,by go_num,HNx,HB9⟩,by simp [intOf];omega⟩
  ·obtain rfl:k=40:=by omega
   have hro:au n t=rw0:=by
    unfold au;rw [if_pos hk];have:=HI.out;rw [List.take_of_length_le (by rw [qc];omega)] at this;rw [this];rfl
   have HRo:=show Hid ((au n t).v=.agg #[.int .u8 0,.int .u8 0,.int .u8 0,.int .u8 0,.int .u8 0,.int .u8 0,.string ⟨#[]⟩,.func (.func 122) #[] #[],.func (.func 122) #[] #[]]) from (by rw [hro];rfl)
   have hA2':=ab hRs HB.out;have HFin:=show Hid (wr.heap[W.heap.size+1+1]?=some (.cells #[.int .u8 0,.int .u8 0,.int .u8 0,.int .u8 0,.int .u8 0,.int .u8 0,.string ⟨#[]⟩,.nilFunc,.nilFunc] 132 (0,0))/\Below W.heap.size W wr) from ⟨hA2',hBV.trans (HB.out.mono hBV.size)⟩
   have s0:=aa (k:=0) hA2' rfl;have s1:=aa (k:=1) hA2' rfl;have s2:=aa (k:=2) hA2' rfl;have s3:=aa (k:=3) hA2' rfl;have s4:=aa (k:=4) hA2' rfl;have s5:=aa (k:=5) hA2' rfl;have s6:=aa (k:=6) hA2' rfl;have s7:=aa (k:=7) hA2' rfl;have s8:=aa (k:=8) hA2' rfl;have f0:=fun j=>ak (k:=j) hA2'
   clear hA2' hro hN hTk hRs hBV HTab HI
   go_wp2_with fail
   obtain ⟨hA2',hbF⟩:=HFin.out;have h9:=af (af (af (af (af (af (af (af (af hA2' 0 (.int .u8 0)) 1 (.int .u8 0)) 2 (.int .u8 0)) 3 (.int .u8 0)) 4 (.int .u8 0)) 5 (.int .u8 0)) 6 (.string ⟨#[]⟩)) 7 (.func (.func 122) #[] #[])) 8 (.func (.func 122) #[] #[]);have h9:=h9.trans (show _=some (Obj.cells #[.int .u8 0,.int .u8 0,.int .u8 0,.int .u8 0,.int .u8 0,.int .u8 0,.string ⟨#[]⟩,.func (.func 122) #[] #[],.func (.func 122) #[] #[]] 132 (0,0)) by kernel_rfl);have hld:=run_loadVar_row (P:=Tryz.prog) _ (W.heap.size+1+1) 132 132 _ (0,0) _ h9 Tryz.underlying132 (by first|rfl|kernel_rfl) (by first|rfl|kernel_rfl);refine bodyPost_ret (v:=.agg #[.int .u8 0,.int .u8 0,.int .u8 0,.int .u8 0,.int .u8 0,.int .u8 0,.string ⟨#[]⟩,.func (.func 122) #[] #[],.func (.func 122) #[] #[]]) (dD (a:=4) (t:=132) (ad:=⟨W.heap.size+1+1,0,none⟩) (by kernel_rfl) (by rfl) hld) rfl ?_;refine ⟨by rw [HRo.out],?_⟩;have hle:W.heap.size<=W.heap.size+1+1:=by omega
   exact ((((((((hbF.setCell (p:=⟨W.heap.size+1+1,0,none⟩) hle _).setCell (p:=⟨W.heap.size+1+1,1,none⟩) hle _).setCell (p:=⟨W.heap.size+1+1,2,none⟩) hle _).setCell (p:=⟨W.heap.size+1+1,3,none⟩) hle _).setCell (p:=⟨W.heap.size+1+1,4,none⟩) hle _).setCell (p:=⟨W.heap.size+1+1,5,none⟩) hle _).setCell (p:=⟨W.heap.size+1+1,6,none⟩) hle _).setCell (p:=⟨W.heap.size+1+1,7,none⟩) hle _).setCell (p:=⟨W.heap.size+1+1,8,none⟩) hle _
theorem sh (n:Nd) (t:Tv) (W:World) :
  Da 70 #[.agg #[.int .u8 n.k,.int .i64 n.b,.bool n.s],.agg #[.int .u8 t.k,.string t.t,.int .i64 t.a,.int .i64 t.l,.int .i64 t.c,.int .i64 t.f]] W fun e w'=>e=.returned (au n t).v/\Below W.heap.size W w':=by
 by_cases hk:t.k=2\/t.k=6
 ·exact sf n t W hk
 ·have hro:au n t=rw0:=by unfold au;rw [if_neg hk]
  have HRo:=show Hid ((au n t).v=.agg #[.int .u8 0,.int .u8 0,.int .u8 0,.int .u8 0,.int .u8 0,.int .u8 0,.string ⟨#[]⟩,.func (.func 122) #[] #[],.func (.func 122) #[] #[]]) from (by rw [hro];rfl)
  have q1:(t.k == 2)=false:=by simp;exact fun h=>hk (.inl h)
  have q2:(t.k == 6)=false:=by simp;exact fun h=>hk (.inr h)
  obtain ⟨U,hU⟩:∃U,(W.alloc (.cells #[.int .u8 n.k,.int .i64 n.b,.bool n.s] 121)).alloc (.cells #[.int .u8 t.k,.string t.t,.int .i64 t.a,.int .i64 t.l,.int .i64 t.c,.int .i64 t.f] 37)=U:=⟨_,rfl⟩;have hsz:U.heap.size=W.heap.size+1+1:=by rw [<-hU];show ((W.heap.push _).push _).size=_;simp
  have hUb:Below W.heap.size W U:=by rw [<-hU];exact ((Below.refl _ _).alloc (Nat.le_refl _) _).alloc (by show _<=(W.heap.push _).size;simp) _
  have h9:=am U (.cells #[.int .u8 0,.int .u8 0,.int .u8 0,.int .u8 0,.int .u8 0,.int .u8 0,.string ⟨#[]⟩,.func (.func 122) #[] #[],.func (.func 122) #[] #[]] 132);rw [hsz] at h9;have hld:=run_loadVar_row (P:=Tryz.prog) _ (W.heap.size+1+1) 132 132 _ (0,0) _ h9 Tryz.underlying132 (by first|rfl|kernel_rfl) (by first|rfl|kernel_rfl);have hBf:Below W.heap.size W (U.alloc (.cells #[.int .u8 0,.int .u8 0,.int .u8 0,.int .u8 0,.int .u8 0,.int .u8 0,.string ⟨#[]⟩,.func (.func 122) #[] #[],.func (.func 122) #[] #[]] 132)):=hUb.alloc hUb.size _;rw [<-hU] at hld hBf;have HLd:=hid hld;have HBf:=hid hBf;clear hld hBf h9 hsz hUb hU hro hk
  go_enter Tryz.func70,Tryz.ntmps70
  go_wp2_with fail
  refine bodyPost_ret (v:=.agg #[.int .u8 0,.int .u8 0,.int .u8 0,.int .u8 0,.int .u8 0,.int .u8 0,.string ⟨#[]⟩,.func (.func 122) #[] #[],.func (.func 122) #[] #[]]) (dD (a:=4) (t:=132) (ad:=⟨W.heap.size+1+1,0,none⟩) (by kernel_rfl) (by rfl) HLd.out) rfl ?_;exact ⟨by rw [HRo.out],HBf.out⟩
end Go.Proofs.YtpdlohfdjiaegaaGreatDoor
