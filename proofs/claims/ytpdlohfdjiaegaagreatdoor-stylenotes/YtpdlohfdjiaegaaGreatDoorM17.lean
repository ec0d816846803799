import Derived.Test.YtpdlohfdjiaegaaGreatDoorM16
set_option linter.unusedVariables false
set_option linter.unusedSimpArgs false
namespace Go.Proofs.YtpdlohfdjiaegaaGreatDoor.Lw
open Go.Proofs.YtpdlohfdjiaegaaGreatDoor.Lx
open Go.RowKit
set_option maxHeartbeats 2000000 in
set_option maxRecDepth 100000 in
theorem same_any (ao bo:Option Addr) (a b:List Dc) (ca cb:Nat) (w:World) (hA:Lay w ao a) (hB:Lay w bo b) (ha:a.length≤9223372036854775807) (hb:b.length≤9223372036854775807) :
  Calls Tryz.prog 18 #[.slice ao a.length ca,.slice bo b.length cb] w fun e w'=>e=.returned (.bool (decide (a=b)))∧Below w.heap.size w w':=by
 obtain ⟨r,hr⟩:∃r,decide (a=b)=r:=⟨_,rfl⟩
 have HR:Hid (decide (a=b)=r):=hr
 rw [hr]
 clear hr
 by_cases hl:a.length=b.length
 ·rw [←hl]
  have HLn:Hid (a.length=b.length):=hl
  clear hl hb
  have HA:Hid (Lay w ao a):=hA
  have HB:Hid (Lay w bo b):=hB
  clear hA hB
  go_enter Tryz.func18,Tryz.ntmps18
  go_wp2_with fail
  go_loopw [5] (fun i wr=>∃k:Nat,k≤a.length∧i=.int .i64 k∧Hid ((∀j,j<k→a[j]?=b[j]?)∧Below w.heap.size w wr)) (fun i _=>a.length-(intOf i).toNat)
  case atStart=>exact ⟨0,by omega,rfl,fun j hj=>by omega,Below.refl _ _⟩
  case round=>
   obtain ⟨k,hk,rfl,HI⟩:=hrel
   by_cases hlt:k<a.length
   ·have q1:(k:Int)<a.length:=by omega
    have q3:(0:Int)≤k:=by omega
    have hlt2:k<b.length:=by have:=HLn.out;omega
    obtain ⟨d,hd⟩:∃d,a[k]?=some d:=⟨_,List.getElem?_eq_getElem hlt⟩
    obtain ⟨d',hd'⟩:∃d,b[k]?=some d:=⟨_,List.getElem?_eq_getElem hlt2⟩
    obtain ⟨_,ba,oa,rfl,c0,c1,c2,c3,c4⟩:=(HA.out.below HI.out.2) k d hd
    obtain ⟨_,bb,ob,rfl,e0,e1,e2,e3,e4⟩:=(HB.out.below HI.out.2) k d' hd'
    have HN:Hid (d≠d'→r=false):=fun h=>by
     rw [←HR.out,decide_eq_false_iff_not]
     rintro rfl
     rw [hd] at hd'
     exact h (by cases hd';rfl)
    have HE:Hid (d=d'→(∀j,j<k+1→a[j]?=b[j]?)):=fun h j hj=>by
     by_cases e:j=k
     ·subst e;rw [hd,hd',h]
     ·exact HI.out.1 j (by omega)
    have HW:Hid (Below w.heap.size w wr):=HI.out.2
    clear HI hd hd'
    by_cases hdd:d=d'
    ·have HE':Hid (∀j,j<k+1→a[j]?=b[j]?):=HE.out hdd
     subst hdd
     clear HE HN
     obtain ⟨dk,dt,db,di,de⟩:=d
     simp only at c0 c1 c2 c3 c4 e0 e1 e2 e3 e4
     go_wp2_with fail
     go_quiet (fail)
     go_wp2_with fail
     exact ⟨⟨k+1,hlt,by go_num,HE'.out,below_drewN HW.out _⟩,by simp [intOf];omega⟩
    ·have HF:Hid (r=false):=HN.out hdd
     have HD:Hid (d≠d'):=hdd
     clear HE HN hdd
     obtain ⟨dk,dt,db,di,de⟩:=d
     obtain ⟨dk',dt',db',di',de'⟩:=d'
     simp only at c0 c1 c2 c3 c4 e0 e1 e2 e3 e4
     by_cases x0:dk=dk'
     ·subst x0
      by_cases x1:dt=dt'
      ·subst x1
       by_cases x2:db=db'
       ·subst x2
        by_cases x3:di=di'
        ·subst x3
         by_cases x4:de=de'
         ·subst x4
          exact absurd rfl HD.out
         ·clear HD
          have y4:(de == de')=false:=by simpa using x4
          go_wp2_with fail
          go_quiet (fail)
          go_wp2_with fail
          go_ret
          rw [HF.out]
          exact ⟨rfl,below_drewN HW.out _⟩
        ·clear HD
         have y3:(di == di')=false:=by simpa using x3
         go_wp2_with fail
         go_quiet (fail)
         go_wp2_with fail
         go_ret
         rw [HF.out]
         exact ⟨rfl,below_drewN HW.out _⟩
       ·clear HD
        have y2:(db == db')=false:=by simpa using x2
        go_wp2_with fail
        go_quiet (fail)
        go_wp2_with fail
        go_ret
        rw [HF.out]
        exact ⟨rfl,below_drewN HW.out _⟩
      ·clear HD
       have y1:=tl_false x1
       clear x1
       go_wp2_with fail
       go_quiet (fail)
       go_wp2_with fail
       go_ret
       rw [HF.out]
       exact ⟨rfl,below_drewN HW.out _⟩
     ·clear HD
      have y0:(dk == dk')=false:=by simpa using x0
      go_wp2_with fail
      go_quiet (fail)
      go_wp2_with fail
      go_ret
      rw [HF.out]
      exact ⟨rfl,below_drewN HW.out _⟩
   ·obtain rfl:k=a.length:=by omega
    have q1:¬((a.length:Int)<a.length):=by omega
    have HT:Hid (r=true):=by
     show _=_
     rw [←HR.out,decide_eq_true_eq]
     apply List.ext_getElem?
     intro j
     by_cases hj:j<a.length
     ·exact HI.out.1 j hj
     ·rw [List.getElem?_eq_none (by omega),List.getElem?_eq_none (by have:=HLn.out;omega)]
    have HW:Hid (Below w.heap.size w wr):=HI.out.2
    clear HI
    go_wp2_with fail
    go_ret
    rw [HT.out]
    exact ⟨rfl,HW.out⟩
 ·have q0:((a.length:Int) != b.length)=true:=by
   have:¬(a.length:Int)=b.length:=by omega
   simp [bne,this]
  have HF:Hid (r=false):=by
   show _=_
   rw [←HR.out,decide_eq_false_iff_not]
   rintro rfl;exact hl rfl
  clear hA hB
  go_enter Tryz.func18,Tryz.ntmps18
  go_wp2_with fail
  go_ret
  rw [HF.out]
  exact ⟨rfl,Below.refl _ _⟩
end Go.Proofs.YtpdlohfdjiaegaaGreatDoor.Lw
namespace Go.Proofs.YtpdlohfdjiaegaaGreatDoor.Lw
open Go.Proofs.YtpdlohfdjiaegaaGreatDoor.Lx
open Go.RowKit
open Go.Lib (strCells strCells_length)
theorem aft_size (t:ByteArray):(aft t).size≤t.size:=by
 unfold aft
 have:=lf_bd t
 rw [ByteArray.size_extract];omega
set_option maxHeartbeats 1000000 in
theorem behind_any (b:Bool) (col wait:Int) (t:ByteArray) (w:World) (hT:Tab w) (ht:t.size≤2147483647) (h0:0≤col) (h1:col≤1152921504606846976) (h2:0≤wait) (h3:wait≤1152921504606846976) :
  Calls Tryz.prog 158 #[.agg #[.bool b,.int .i64 col,.int .i64 wait],.string t] w fun e w'=>e=.returned (.agg #[.bool true,.int .i64 (ncol col wait t),.int .i64 0])∧Below w.heap.size w w':=by
 have hbd:=lf_bd t
 have hbt:=tw_bd t
 have hba:=tw_bd (aft t)
 have hsa:=aft_size t
 by_cases hl:lf t<0
 ·have q1:decide (0≤lf t)=false:=by simp;omega
  have q2:¬(0≤lf t):=by omega
  have HN:Hid (ncol col wait t=col+wait+tw t):=if_pos hl
  clear hba hsa
  obtain ⟨y,hy⟩:∃y,tw t=y:=⟨_,rfl⟩
  rw [hy] at HN hbt
  go_enter Tryz.func158,Tryz.ntmps158
  go_wp2_with (go_at_call 200;refine (lastix10 t (by omega) _).mono ?_;rintro e w1 ⟨rfl,rfl⟩)
  obtain ⟨W,hW⟩:∃W,((w.alloc (.cells #[.bool b,.int .i64 col,.int .i64 wait] 163)).alloc (.cells #[.bool false,.int .i64 0,.int .i64 0] 163))=W:=⟨_,rfl⟩
  have s1:(w.alloc (.cells #[.bool b,.int .i64 col,.int .i64 wait] 163)).heap.size=w.heap.size+1:=World.size_alloc _ _
  have hbW:Below w.heap.size w W:=by rw [←hW];exact ((Below.refl _ w).alloc (Nat.le_refl _) _).alloc (by omega) _
  have b1:W.heap[w.heap.size]?=some (.cells #[.bool b,.int .i64 col,.int .i64 wait] 163 (0,0)):=by rw [←hW];exact alloc_at _ _ _ _ (new_at _ _)
  have b2:W.heap[w.heap.size+1]?=some (.cells #[.bool false,.int .i64 0,.int .i64 0] 163 (0,0)):=by rw [←hW,←s1];exact new_at _ _
  obtain ⟨x,hx⟩:∃x,x=w.heap.size:=⟨_,rfl⟩
  rw [←hx] at b1 b2 hbW
  have hTW:Tab W:=hT.below (by rw [←hx];exact hbW)
  simp only [hW,←hx]
  have x1:W.cell? ⟨x,1,none⟩=some (.int .i64 col):=blk_cell b1 rfl
  have x2:W.cell? ⟨x,2,none⟩=some (.int .i64 wait):=blk_cell b1 rfl
  have HB:Hid (∀V,Below W.heap.size W V→V.cell? ⟨x,1,none⟩=some (.int .i64 col)∧V.cell? ⟨x,2,none⟩=some (.int .i64 wait)∧V.cell? ⟨x+1,0,none⟩=some (.bool false)∧V.cell? ⟨x+1,1,none⟩=some (.int .i64 0)∧V.cell? ⟨x+1,2,none⟩=some (.int .i64 0)∧V.frozen? ⟨x+1,0,none⟩=false∧V.frozen? ⟨x+1,1,none⟩=false∧V.frozen? ⟨x+1,2,none⟩=false):=fun V hV=>⟨blk_cell (blk_below b1 hV) rfl,blk_cell (blk_below b1 hV) rfl,blk_cell (blk_below b2 hV) rfl,blk_cell (blk_below b2 hV) rfl,blk_cell (blk_below b2 hV) rfl,blk_frozen (blk_below b2 hV),blk_frozen (blk_below b2 hV),blk_frozen (blk_below b2 hV)⟩
  have HBW:Hid (Below x w W):=hbW
  have HT:Hid (Tab W):=hTW
  have HC:Hid (Calls Tryz.prog 196 #[.string t] W.drew fun e V=>e=.returned (.int .i64 y)∧Hid (Below x w V∧V.heap[x+1]?=some (.cells #[.bool false,.int .i64 0,.int .i64 0] 163 (0,0)))∧V.cell? ⟨x,1,none⟩=some (.int .i64 col)∧V.cell? ⟨x,2,none⟩=some (.int .i64 wait)∧V.cell? ⟨x+1,0,none⟩=some (.bool false)∧V.cell? ⟨x+1,1,none⟩=some (.int .i64 0)∧V.cell? ⟨x+1,2,none⟩=some (.int .i64 0)∧V.frozen? ⟨x+1,0,none⟩=false∧V.frozen? ⟨x+1,1,none⟩=false∧V.frozen? ⟨x+1,2,none⟩=false):=by
   refine (wtext_any t W.drew (hTW.below (Below.drew (Below.refl _ W))) ht).mono ?_
   rintro e V ⟨rfl,hV⟩
   have hV':Below W.heap.size W V:=⟨hV.os,hV.tape,hV.output,hV.size,hV.block⟩
   exact ⟨by rw [hy],⟨hbW.trans (hV'.mono (by have:=hbW.size;omega)),blk_below b2 hV'⟩,HB.out V hV'⟩
  clear s1 b1 b2 hT hTW hbW hW q1 q2 hl hbd HB HT hy
  have HX:Hid (x=w.heap.size):=hx
  clear hx
  go_region_with (go_at_call 196;refine HC.out.mono ?_;rintro e w2 ⟨rfl,hb2,k1,k2,k3,k4,k5,k6,k7,k8⟩)
  all_goals
   have hz:IntKind.i64.wrap (IntKind.i64.wrap (col+wait)+y)=col+wait+y:=by rw [IntKind.wrap_i64,IntKind.wrap_i64];omega
   rw [hz]
   obtain ⟨V,hV⟩:∃V,V=((w2.setCell ⟨x+1,0,none⟩ (.bool true)).setCell ⟨x+1,1,none⟩ (.int .i64 (col+wait+y))).setCell ⟨x+1,2,none⟩ (.int .i64 0):=⟨_,rfl⟩
   have hVb:V.heap[x+1]?=some (.cells #[.bool true,.int .i64 (col+wait+y),.int .i64 0] 163 (0,0)):=by rw [hV];exact blk_set (blk_set (blk_set hb2.out.2 0 _) 1 _) 2 _
   have hVB:Below x w V:=by rw [hV];exact (((hb2.out.1).setCell (p:=⟨x+1,0,none⟩) (by show x≤x+1;omega) _).setCell (p:=⟨x+1,1,none⟩) (by show x≤x+1;omega) _).setCell (p:=⟨x+1,2,none⟩) (by show x≤x+1;omega) _
   rw [←hV]
   have m0:V.cell? ⟨x+1,0,none⟩=some (.bool true):=blk_cell hVb rfl
   have m1:V.cell? ⟨x+1,1,none⟩=some (.int .i64 (col+wait+y)):=blk_cell hVb rfl
   have m2:V.cell? ⟨x+1,2,none⟩=some (.int .i64 0):=blk_cell hVb rfl
   have HF:Hid (Ending.returned (.agg #[.bool true,.int .i64 (col+wait+y),.int .i64 0])=.returned (.agg #[.bool true,.int .i64 (ncol col wait t),.int .i64 0])∧Below w.heap.size w V):=⟨by rw [HN.out],by rw [←HX.out];exact hVB⟩
   clear hz hV hVb hVB k1 k2 k3 k4 k5 k6 k7 k8 hb2 HC HN
   go_wp2_with fail
   exact bodyPost_ret (v:=.agg #[.bool true,.int .i64 (col+wait+y),.int .i64 0]) (by simp [results,Tryz.f158,go_sem,m0,m1,m2]) rfl HF.out
 ·have q1:decide (0≤lf t)=true:=by simp;omega
  have q2:(0≤lf t):=by omega
  have HN:Hid (ncol col wait t=tw (aft t)):=if_neg hl
  obtain ⟨k,hk⟩:∃k:Nat,lf t=k:=⟨(lf t).toNat,by omega⟩
  have HA:Hid (aft t=t.extract (k+1) t.size):=by unfold aft;rw [hk];rfl
  obtain ⟨y,hy⟩:∃y,tw (aft t)=y:=⟨_,rfl⟩
  have HC:Hid (∀V,Tab V→Calls Tryz.prog 196 #[.string (t.extract (k+1) t.size)] V fun e V'=>e=.returned (.int .i64 y)∧Below V.heap.size V V'):=by
   intro V hV
   rw [←HA.out,←hy]
   exact wtext_any (aft t) V hV (by omega)
  rw [hy] at HN hba
  have hk1:(k:Int)+1≤t.size:=by omega
  have hkn:k+1≤t.size:=by omega
  have HT:Hid (Tab w):=hT
  have LC:Hid (∀V,Calls Tryz.prog 200 #[.string t,.string ⟨#[10]⟩] V fun e w'=>e=.returned (.int .i64 k)∧w'=V):=by
   intro V;have:=lastix10 t (by omega) V;rw [hk] at this;exact this
  clear hsa hbt q1 q2 hT hy HA hl hk hbd
  go_enter Tryz.func158,Tryz.ntmps158
  go_wp2_with (go_at_call 200;refine (LC.out _).mono ?_;rintro e w1 ⟨rfl,rfl⟩)
  obtain ⟨W,hW⟩:∃W,((w.alloc (.cells #[.bool b,.int .i64 col,.int .i64 wait] 163)).alloc (.cells #[.bool false,.int .i64 0,.int .i64 0] 163))=W:=⟨_,rfl⟩
  have s1:(w.alloc (.cells #[.bool b,.int .i64 col,.int .i64 wait] 163)).heap.size=w.heap.size+1:=World.size_alloc _ _
  have hbW:Below w.heap.size w W:=by rw [←hW];exact ((Below.refl _ w).alloc (Nat.le_refl _) _).alloc (by omega) _
  have b2:W.heap[w.heap.size+1]?=some (.cells #[.bool false,.int .i64 0,.int .i64 0] 163 (0,0)):=by rw [←hW,←s1];exact new_at _ _
  refine (HC.out _ ?tab).mono ?_
  case tab=>rw [hW];exact HT.out.below hbW
  rintro e w2 ⟨rfl,hb2⟩
  rw [hW] at hb2
  have HB2:Hid (Below w.heap.size w w2):=hbW.trans (hb2.mono hbW.size)
  have k0:=blk_below b2 hb2
  clear hb2 hbW b2 s1 hW
  have HK:Hid (w2.heap[w.heap.size+1]?=some (.cells #[.bool false,.int .i64 0,.int .i64 0] 163 (0,0))):=k0
  obtain ⟨x,HX⟩:∃x,Hid (x=w.heap.size):=⟨_,rfl⟩
  rw [←HX.out] at k0 HB2 HK ⊢
  have k3:w2.cell? ⟨x+1,0,none⟩=some (.bool false):=blk_cell k0 rfl
  have k4:w2.cell? ⟨x+1,1,none⟩=some (.int .i64 0):=blk_cell k0 rfl
  have k5:w2.cell? ⟨x+1,2,none⟩=some (.int .i64 0):=blk_cell k0 rfl
  have k6:w2.frozen? ⟨x+1,0,none⟩=false:=blk_frozen k0
  have k7:w2.frozen? ⟨x+1,1,none⟩=false:=blk_frozen k0
  have k8:w2.frozen? ⟨x+1,2,none⟩=false:=blk_frozen k0
  clear k0
  obtain ⟨V,hV⟩:∃V,V=((w2.setCell ⟨x+1,0,none⟩ (.bool true)).setCell ⟨x+1,1,none⟩ (.int .i64 y)).setCell ⟨x+1,2,none⟩ (.int .i64 0):=⟨_,rfl⟩
  have hVb:V.heap[x+1]?=some (.cells #[.bool true,.int .i64 y,.int .i64 0] 163 (0,0)):=by rw [hV];exact blk_set (blk_set (blk_set HK.out 0 _) 1 _) 2 _
  have hVB:Below x w V:=by rw [hV];exact (((HB2.out).setCell (p:=⟨x+1,0,none⟩) (by show x≤x+1;omega) _).setCell (p:=⟨x+1,1,none⟩) (by show x≤x+1;omega) _).setCell (p:=⟨x+1,2,none⟩) (by show x≤x+1;omega) _
  have m0:V.cell? ⟨x+1,0,none⟩=some (.bool true):=blk_cell hVb rfl
  have m1:V.cell? ⟨x+1,1,none⟩=some (.int .i64 y):=blk_cell hVb rfl
  have m2:V.cell? ⟨x+1,2,none⟩=some (.int .i64 0):=blk_cell hVb rfl
  have HF:Hid (Ending.returned (.agg #[.bool true,.int .i64 y,.int .i64 0])=.returned (.agg #[.bool true,.int .i64 (ncol col wait t),.int .i64 0])∧Below w.heap.size w V):=⟨by rw [HN.out],by rw [←HX.out];exact hVB⟩
  have HV:Hid (V=((w2.setCell ⟨x+1,0,none⟩ (.bool true)).setCell ⟨x+1,1,none⟩ (.int .i64 y)).setCell ⟨x+1,2,none⟩ (.int .i64 0)):=hV
  clear hV hVb hVB HB2 HC HN
  go_wp2_with fail
  rw [←HV.out]
  exact bodyPost_ret (v:=.agg #[.bool true,.int .i64 y,.int .i64 0]) (by simp [results,Tryz.f158,go_sem,m0,m1,m2]) rfl HF.out
def addg (gs:List (Nat × Nat)) (l m:Nat):List (Nat × Nat):=if m=0 then gs else gs++[(l,m)]
theorem weave_addg {f:Nat}{gs:List (Nat × Nat)}{t:List UInt8}(m:Nat) (h:Ups f gs t.length):weave f (addg gs t.length m) t=weave f gs t++List.replicate m 32:=by
 unfold addg
 by_cases hm:m=0
 ·rw [if_pos hm,hm];simp
 ·rw [if_neg hm];exact weave_gap m h
theorem ups_addg {f:Nat}{gs:List (Nat × Nat)}{k:Nat}(m:Nat) (h:Ups f gs k):Ups f (addg gs k m) k:=by
 unfold addg
 split
 ·exact h
 ·exact h.snoc m
theorem sums_addg (gs:List (Nat × Nat)) (l m:Nat):sums (addg gs l m)=sums gs+m:=by
 unfold addg
 split
 ·omega
 ·exact sums_app _ _ _
theorem lt_addg (gs:List (Nat × Nat)) (l m n:Nat) (h:∀x∈gs,x.1<n) (hl:l<n):∀x∈addg gs l m,x.1<n:=by
 unfold addg
 split
 ·exact h
 ·intro x hx
  rcases List.mem_append.1 hx with hx|hx
  ·exact h x hx
  ·simp at hx;subst hx;exact hl
theorem len_addg (gs:List (Nat × Nat)) (l m:Nat) (h:gs.length≤sums gs):(addg gs l m).length≤sums (addg gs l m):=by
 rw [sums_addg];unfold addg
 split
 ·omega
 ·simp;omega
theorem cl_bl (m d c:Nat) (v tv:Value) (l:Nat) (gs:List (Nat × Nat)) (w:World) (hc:w.heap[c]?=some (.cells #[tv] 164 (0,0))) (htv:∃p cap,tv=.slice p l cap) (hd:w.heap[d]?=some (.cells #[v] 165 (0,0))) (ho:w.ownsRow 0 175 2 v gs.length (flat eg gs)) (hn:gs.length≤1073741824) (hm2:m≤9223372036854775807) (hl:l≤9223372036854775807) :
  Calls Tryz.prog 197 #[.int .i64 m,.pointer (some ⟨d,0,none⟩),.pointer (some ⟨c,0,none⟩)] w fun e w'=>e=.returned (.tuple #[])∧∃v',w'.heap[d]?=some (.cells #[v'] 165 (0,0))∧w'.ownsRow 0 175 2 v' (addg gs l m).length (flat eg (addg gs l m))∧(v'.ownBlock=v.ownBlock∨∃b,w.heap.size≤b∧v'.ownBlock=some b)∧Kp (fun k=>k=d∨some k=v.ownBlock) w w':=by
 unfold addg
 by_cases hm:m=0
 ·subst hm
  simp only [if_pos]
  refine (cl_none 0 d c w (Int.le_refl _)).mono ?_
  rintro e w' ⟨rfl,rfl⟩
  exact ⟨rfl,v,hd,ho,.inl rfl,Kp.refl _ _⟩
 ·simp only [if_neg hm]
  refine (cl_blanks m d c v tv gs.length l (flat eg gs) w hc htv hd ho hn (by omega) hm2 hl).mono ?_
  rintro e w' ⟨rfl,v',h1,h2,h3,h4⟩
  refine ⟨rfl,v',h1,?_,h3,h4⟩
  rw [List.length_append,flat_append]
  simpa [flat] using h2
structure Ga (own:Nat→Nat) (i:Nat) (w0:World) (g c d h:Nat) (sv:Array Value) (w:World) (text:List UInt8) (gs:List (Nat × Nat)):Prop where
 hg:w.heap[g]?=some (.cells sv 167 (0,0))
 hc:∃tv,w.heap[c]?=some (.cells #[tv] 164 (0,0))∧w.ownsRow 0 5 1 tv text.length (bc text)∧∀k,tv.ownBlock=some k→own k=i∨w0.heap.size≤k
 hd:∃gv,w.heap[d]?=some (.cells #[gv] 165 (0,0))∧w.ownsRow 0 175 2 gv gs.length (flat eg gs)∧∀k,gv.ownBlock=some k→own k=i∨w0.heap.size≤k
 hh:w.heap[h]?=some (.cells #[.pointer (some ⟨g,0,none⟩)] 111 (0,0))
 kp:Kp (fun k=>own k=i) w0 w
 lc:w0.heap.size≤c
 ld:w0.heap.size≤d
theorem ne_of_blk {w:World}{a b:Nat}{x y:Array Value}{s t:TypeId}{f e:Nat × Nat}(ha:w.heap[a]?=some (.cells x s f)) (hb:w.heap[b]?=some (.cells y t e)) (h:s≠t):a≠b:=by
 rintro rfl
 rw [ha] at hb
 injection hb with h1
 injection h1 with _ h2
 exact h h2
theorem Ga.below {own:Nat→Nat}{i:Nat}{w0:World}{g c d h:Nat}{sv:Array Value}{w w':World}{text:List UInt8}{gs:List (Nat × Nat)}(H:Ga own i w0 g c d h sv w text gs) (hb:Below w.heap.size w w'):Ga own i w0 g c d h sv w' text gs:=by
 obtain ⟨tv,h1,h2,h3⟩:=H.hc
 obtain ⟨gv,k1,k2,k3⟩:=H.hd
 exact ⟨blk_below H.hg hb,⟨tv,blk_below h1 hb,row_below h2 hb,h3⟩,⟨gv,blk_below k1 hb,row_below k2 hb,k3⟩,blk_below H.hh hb,H.kp.step (Kp.of_below (S:=fun k=>own k=i) hb) (fun _ _ h=>h),H.lc,H.ld⟩
theorem Ga.blanks {own:Nat→Nat}{i:Nat}{w0:World}{g c d h:Nat}{sv:Array Value}{w:World}{text:List UInt8}{gs:List (Nat × Nat)}(H:Ga own i w0 g c d h sv w text gs) (m:Nat) (hn:gs.length≤1073741824) (hm:m≤9223372036854775807) (hl:text.length≤9223372036854775807) :
  Calls Tryz.prog 197 #[.int .i64 m,.pointer (some ⟨d,0,none⟩),.pointer (some ⟨c,0,none⟩)] w fun e w'=>e=.returned (.tuple #[])∧Ga own i w0 g c d h sv w' text (addg gs text.length m):=by
 obtain ⟨tv,h1,h2,h3⟩:=H.hc
 obtain ⟨gv,k1,k2,k3⟩:=H.hd
 obtain ⟨p,cap,hv,_,_⟩:=row_shape h2
 refine (cl_bl m d c gv tv text.length gs w h1 ⟨p,cap,hv⟩ k1 k2 hn hm hl).mono ?_
 rintro e w' ⟨rfl,v',a1,a2,a3,a4⟩
 have hne:∀{x:Array Value} {k:Nat} {T:TypeId},w.heap[k]?=some (.cells x T (0,0))→T≠165→T≠175→¬(k=d∨some k=gv.ownBlock):=by
  intro x k T hk t1 t2 hh
  rcases hh with hh|hh
  ·exact ne_of_blk hk k1 t1 hh
  ·exact row_ne k2 hk t2 hh.symm
 refine ⟨rfl,a4.blk H.hg (hne H.hg (by decide) (by decide)),⟨tv,a4.blk h1 (hne h1 (by decide) (by decide)),a4.row h2 ?_,h3⟩,⟨v',a1,a2,?_⟩,a4.blk H.hh (hne H.hh (by decide) (by decide)),H.kp.step a4 ?_,H.lc,H.ld⟩
 ·intro k hk hS
  rcases hS with hS|hS
  ·subst hS;exact row_ne h2 k1 (by decide) hk
  ·rcases h2.2 with ⟨rfl,_⟩|⟨b,cap,cur,rfl,_,hb,_⟩
   ·cases hk
   ·simp only [Value.ownBlock,Option.some.injEq] at hk
    subst hk
    exact row_ne k2 hb (by decide) hS.symm
 ·intro k hk
  rcases a3 with a3|⟨b,hb,a3⟩
  ·exact k3 k (by rw [←a3];exact hk)
  ·rw [a3] at hk;injection hk with hk;subst hk
   exact .inr (Nat.le_trans H.kp.size hb)
 ·intro j hj hS
  rcases hS with hS|hS
  ·have:=H.ld;omega
  ·rcases k3 j hS.symm with h|h
   ·exact h
   ·omega
theorem Ga.text {own:Nat→Nat}{i:Nat}{w0:World}{g c d h:Nat}{sv:Array Value}{w:World}{text:List UInt8}{gs:List (Nat × Nat)}(H:Ga own i w0 g c d h sv w text gs) (t:ByteArray) (hn:text.length+t.size≤70368744177664) :
  Calls Tryz.prog 198 #[.string t,.pointer (some ⟨c,0,none⟩)] w fun e w'=>e=.returned (.tuple #[])∧Ga own i w0 g c d h sv w' (text++t.data.toList) gs:=by
 obtain ⟨tv,h1,h2,h3⟩:=H.hc
 obtain ⟨gv,k1,k2,k3⟩:=H.hd
 refine (cl_text c tv text.length (bc text) t w h1 h2 hn).mono ?_
 rintro e w' ⟨rfl,v',a1,a2,a3,a4⟩
 have hne:∀{x:Array Value} {k:Nat} {T:TypeId},w.heap[k]?=some (.cells x T (0,0))→T≠164→T≠5→¬(k=c∨some k=tv.ownBlock):=by
  intro x k T hk t1 t2 hh
  rcases hh with hh|hh
  ·exact ne_of_blk hk h1 t1 hh
  ·exact row_ne h2 hk t2 hh.symm
 have hlen:(text++t.data.toList).length=text.length+t.size:=by rw [List.length_append];rfl
 refine ⟨rfl,a4.blk H.hg (hne H.hg (by decide) (by decide)),⟨v',a1,by rw [hlen,bc_app];exact a2,?_⟩,⟨gv,a4.blk k1 (hne k1 (by decide) (by decide)),a4.row k2 ?_,k3⟩,a4.blk H.hh (hne H.hh (by decide) (by decide)),H.kp.step a4 ?_,H.lc,H.ld⟩
 ·intro k hk
  rcases a3 with a3|a3
  ·exact h3 k (by rw [←a3];exact hk)
  ·rw [a3] at hk;injection hk with hk;subst hk
   exact .inr H.kp.size
 ·intro k hk hS
  rcases hS with hS|hS
  ·subst hS;exact row_ne k2 h1 (by decide) hk
  ·rcases k2.2 with ⟨rfl,_⟩|⟨b,cap,cur,rfl,_,hb,_⟩
   ·cases hk
   ·simp only [Value.ownBlock,Option.some.injEq] at hk
    subst hk
    exact row_ne h2 hb (by decide) hS.symm
 ·intro j hj hS
  rcases hS with hS|hS
  ·have:=H.lc;omega
  ·rcases h3 j hS.symm with h|h
   ·exact h
   ·omega
structure St6 where
 fresh:Bool
 col:Nat
 wait:Nat
 out:List UInt8
structure SK (own:Nat→Nat) (i:Nat) (w:World) (g:Nat) (s:St6):Prop where
 lab:own g=i
 ex:∃tv gv text gs,w.heap[g]?=some (.cells (sk (!s.fresh) s.col s.wait tv gv) 167 (0,0))∧(w.ownsRow 0 5 1 tv text.length (bc text)∧∀k,tv.ownBlock=some k→own k=i)∧(w.ownsRow 0 175 2 gv gs.length (flat eg gs)∧∀k,gv.ownBlock=some k→own k=i)∧Ups 0 gs text.length∧s.out=weave 0 gs text∧(gs.length≤sums gs∧∀x∈gs,x.1<text.length)
theorem fr_row {own own':Nat→Nat}{i j:Nat}{w w':World}{e sz n:Nat}{v:Value}{xs:List Value}(hf:Fr j own own' w w') (hij:i≠j) (h:w.ownsRow 0 e sz v n xs∧∀k,v.ownBlock=some k→own k=i):w'.ownsRow 0 e sz v n xs∧∀k,v.ownBlock=some k→own' k=i:=by
 obtain ⟨h1,h2⟩:=h
 refine ⟨⟨h1.1,?_⟩,fun k hk=>?_⟩
 ·rcases h1.2 with h3|⟨g,cap,cur,rfl,h4,h5,h6⟩
  ·exact .inl h3
  ·exact .inr ⟨g,cap,cur,rfl,h4,(hf.block g (blk_lt h5) (by rw [h2 g rfl];exact hij)).trans h5,h6⟩
 ·rw [hf.old k (h1.lt k hk).2];exact h2 k hk
theorem SK.kept {own own':Nat→Nat}{i j:Nat}{w w':World}{g:Nat}{s:St6}(h:SK own i w g s) (hf:Fr j own own' w w') (hij:i≠j):SK own' i w' g s:=by
 obtain ⟨tv,gv,text,gs,h1,h2,h3,h4⟩:=h.ex
 exact ⟨(hf.old g (blk_lt h1)).trans h.lab,tv,gv,text,gs,(hf.block g (blk_lt h1) (by rw [h.lab];exact hij)).trans h1,fr_row hf hij h2,fr_row hf hij h3,h4⟩
theorem SK.below {own:Nat→Nat}{i:Nat}{w w':World}{g:Nat}{s:St6}(h:SK own i w g s) (hb:Below w.heap.size w w'):SK own i w' g s:=
 h.kept (Fr.of_below (i:=i+1) hb) (by omega)
theorem SK.len {own:Nat→Nat}{i:Nat}{w:World}{g:Nat}{s:St6}(h:SK own i w g s):g<w.heap.size:=by
 obtain ⟨tv,gv,text,gs,h1,_⟩:=h.ex
 exact blk_lt h1
def Af (own:Nat→Nat) (i:Nat) (w w':World) (g:Nat) (s:St6):Prop:=∃own',Nf own' w'∧Fr i own own' w w'∧SK own' i w' g s
theorem Af.here {own:Nat→Nat}{i:Nat}{w w':World}{g:Nat}{s:St6}(h:SK own i w g s) (hn:Nf own w) (hb:Below w.heap.size w w'):Af own i w w' g s:=
 ⟨own,hn.below hb.size,Fr.of_below hb,h.below hb⟩
theorem Ga.fin {own:Nat→Nat}{i:Nat}{w0 w w':World}{g c d h:Nat}{sv:Array Value}{text:List UInt8}{gs:List (Nat × Nat)}(H:Ga own i w0 g c d h sv w text gs) (hn:Nf own w0) (hlab:own g=i) (hg0:g<w0.heap.size)
  (tv gv:Value) (h1:w.ownsRow 0 5 1 tv text.length (bc text)) (h2:∀k,tv.ownBlock=some k→own k=i∨w0.heap.size≤k) (k1:w.ownsRow 0 175 2 gv gs.length (flat eg gs)) (k2:∀k,gv.ownBlock=some k→own k=i∨w0.heap.size≤k)
  (s:St6) (hgw:w'.heap[g]?=some (.cells (sk (!s.fresh) s.col s.wait tv gv) 167 (0,0))) (hk:Kp (fun k=>k=g) w w') (hu:Ups 0 gs text.length) (ho:s.out=weave 0 gs text) (hgs:gs.length≤sums gs∧∀x∈gs,x.1<text.length):Af own i w0 w' g s:=by
 have hs:=H.kp.size
 have hs':=hk.size
 have rw1:=row_ne h1 H.hg (by decide)
 have rw2:=row_ne k1 H.hg (by decide)
 have lt1:=fun k hk=>(h1.lt k hk).2
 have lt2:=fun k hk=>(k1.lt k hk).2
 refine ⟨fun k=>if k<w0.heap.size then own k else if tv.ownBlock=some k∨gv.ownBlock=some k then i else 0,?_,?_,?_,tv,gv,text,gs,hgw,⟨hk.row h1 (fun k e1 e2=>rw1 (by rw [e1,e2])),?_⟩,⟨hk.row k1 (fun k e1 e2=>rw2 (by rw [e1,e2])),?_⟩,hu,ho,hgs⟩
 ·intro k hkk
  show (if k<w0.heap.size then own k else if tv.ownBlock=some k∨gv.ownBlock=some k then i else 0)=0
  rw [if_neg (by omega),if_neg]
  rintro (e|e)
  ·have:=lt1 k e;omega
  ·have:=lt2 k e;omega
 ·refine (H.kp.step hk (fun j _ e=>by subst e;exact hlab)).fr (fun k _ e=>e) (fun k hkk=>if_pos hkk)
 ·show (if g<w0.heap.size then own g else _)=i
  rw [if_pos hg0];exact hlab
 ·intro k e
  show (if k<w0.heap.size then own k else if tv.ownBlock=some k∨gv.ownBlock=some k then i else 0)=i
  by_cases hkk:k<w0.heap.size
  ·rw [if_pos hkk]
   rcases h2 k e with h|h
   ·exact h
   ·omega
  ·rw [if_neg hkk,if_pos (.inl e)]
 ·intro k e
  show (if k<w0.heap.size then own k else if tv.ownBlock=some k∨gv.ownBlock=some k then i else 0)=i
  by_cases hkk:k<w0.heap.size
  ·rw [if_pos hkk]
   rcases k2 k e with h|h
   ·exact h
   ·omega
  ·rw [if_neg hkk,if_pos (.inr e)]
def St6.feed (s:St6) (c:Nat):St6:=⟨true,c,0,s.out++[10]⟩
theorem ga_end {own:Nat→Nat}{i:Nat}{w0 w:World}{g c d h:Nat}{b:Bool}{col wait:Int}{tv0 gv0:Value}{text:List UInt8}{gs:List (Nat × Nat)}(H:Ga own i w0 g c d h (sk b col wait tv0 gv0) w text gs) (htv0:∃p n cap,tv0=.slice p n cap) (hgv0:∃p n cap,gv0=.slice p n cap) (hn:Nf own w0) (hlab:own g=i) (hg0:g<w0.heap.size)
  (u:FrameMode) (s:St6) (hu:Ups 0 gs text.length) (ho:s.out=weave 0 gs text) (hgs:gs.length≤sums gs∧∀x∈gs,x.1<text.length) :
  CallsD Tryz.prog 199 #[.agg #[.bool (!s.fresh),.int .i64 s.col,.int .i64 s.wait],.pointer (some ⟨c,0,none⟩),.pointer (some ⟨d,0,none⟩),.pointer (some ⟨h,0,none⟩)] u w fun e u' w'=>u'=u∧(e=.returned (.tuple #[])∧Af own i w0 w' g s):=by
 obtain ⟨tv,h1,h2,h3⟩:=H.hc
 obtain ⟨gv,k1,k2,k3⟩:=H.hd
 obtain ⟨p1,c1,e1,_,_⟩:=row_shape h2
 obtain ⟨p2,c2,e2,_,_⟩:=row_shape k2
 refine (cl_end u b (!s.fresh) col wait s.col s.wait c d h g tv0 gv0 tv gv w H.hg h1 k1 H.hh htv0 hgv0 ⟨_,_,_,e1⟩ ⟨_,_,_,e2⟩).mono ?_
 rintro e u' w' ⟨rfl,rfl,a1,a2⟩
 exact ⟨rfl,rfl,H.fin hn hlab hg0 tv gv h2 h3 k2 k3 s a1 a2 hu ho hgs⟩
theorem ga_start {own:Nat→Nat}{i:Nat}{w w':World}{g c d h:Nat}{sv:Array Value}{tv gv:Value}{text:List UInt8}{gs:List (Nat × Nat)}(hg:w.heap[g]?=some (.cells sv 167 (0,0))) (h1:w.ownsRow 0 5 1 tv text.length (bc text)∧∀k,tv.ownBlock=some k→own k=i) (h2:w.ownsRow 0 175 2 gv gs.length (flat eg gs)∧∀k,gv.ownBlock=some k→own k=i)
  (hB:(w'.heap[c]?=some (.cells #[tv] 164 (0,0))∧w'.heap[d]?=some (.cells #[gv] 165 (0,0))∧w'.heap[h]?=some (.cells #[.pointer (some ⟨g,0,none⟩)] 111 (0,0))∧w.heap.size≤c∧w.heap.size≤d∧w.heap.size≤h)∧Below w.heap.size w w'):Ga own i w g c d h sv w' text gs:=by
 obtain ⟨⟨b1,b2,b3,b4,b5,_⟩,hb⟩:=hB
 exact ⟨blk_below hg hb,⟨tv,b1,row_below h1.1 hb,fun k hk=>.inl (h1.2 k hk)⟩,⟨gv,b2,row_below h2.1 hb,fun k hk=>.inl (h2.2 k hk)⟩,b3,Kp.of_below hb,b4,b5⟩
set_option maxHeartbeats 1000000 in
theorem next_any (own:Nat→Nat) (i g:Nat) (s:St6) (c:Nat) (w:World) (h:SK own i w g s) (hn:Nf own w) (hb:s.out.length≤1073741824) :
  Calls Tryz.prog 162 #[.pointer (some ⟨g,0,none⟩),.int .i64 c] w fun e w'=>e=.returned (.tuple #[])∧Af own i w w' g (s.feed c):=by
 have hlt:=h.len
 have hlab:=h.lab
 obtain ⟨tv,gv,text,gs,h1,h2,h3,h4,h5,h6⟩:=h.ex
 obtain ⟨p1,c1,e1,_,_⟩:=row_shape h2.1
 obtain ⟨p2,c2,e2,_,_⟩:=row_shape h3.1
 have hwl:=weave_len h4
 rw [←h5] at hwl
 have h61:=h6.1
 have HG:=gather_any g (!s.fresh) s.col s.wait tv gv w h1 ⟨_,_,_,e1⟩ ⟨_,_,_,e2⟩
 have HS:Hid (∀(w':World) (c d h:Nat),((w'.heap[c]?=some (.cells #[tv] 164 (0,0))∧w'.heap[d]?=some (.cells #[gv] 165 (0,0))∧w'.heap[h]?=some (.cells #[.pointer (some ⟨g,0,none⟩)] 111 (0,0))∧w.heap.size≤c∧w.heap.size≤d∧w.heap.size≤h)∧Below w.heap.size w w')→Ga own i w g c d h (sk (!s.fresh) s.col s.wait tv gv) w' text gs):=fun w' c d h hB=>ga_start h1 h2 h3 hB
 have HE:Hid (∀(w':World) (cb d h:Nat) (u:FrameMode),Ga own i w g cb d h (sk (!s.fresh) s.col s.wait tv gv) w' (text++[10]) gs→CallsD Tryz.prog 199 #[.agg #[.bool false,.int .i64 c,.int .i64 0],.pointer (some ⟨cb,0,none⟩),.pointer (some ⟨d,0,none⟩),.pointer (some ⟨h,0,none⟩)] u w' fun e u' w'=>u'=u∧(e=.returned (.tuple #[])∧Af own i w w' g (s.feed c))):=fun w' cb d h u H=>
  ga_end H ⟨_,_,_,e1⟩ ⟨_,_,_,e2⟩ hn hlab hlt u (s.feed c) (h4.more (by simp)) (by show s.out++[10]=_;rw [h5,weave_app [10] h4]) ⟨h6.1,fun x hx=>by have:=h6.2 x hx;simp;omega⟩
 have HGH:Hid (Calls Tryz.prog 157 #[.pointer (some ⟨g,0,none⟩)] w fun e w'=>∃c d h,e=.returned (.tuple #[.func (.func 197) #[] #[.pointer (some ⟨d,0,none⟩),.pointer (some ⟨c,0,none⟩)],.func (.func 198) #[] #[.pointer (some ⟨c,0,none⟩)],.func (.func 199) #[] #[.pointer (some ⟨c,0,none⟩),.pointer (some ⟨d,0,none⟩),.pointer (some ⟨h,0,none⟩)]])∧Ga own i w g c d h (sk (!s.fresh) s.col s.wait tv gv) w' text gs):=by
  refine HG.mono ?_
  rintro e w' ⟨c,d,h,rfl,hB⟩
  exact ⟨c,d,h,rfl,HS.out _ _ _ _ hB⟩
 have HL:Hid (text.length+1≤70368744177664):=by show _≤_;omega
 clear HG HS hn hlab hlt h h1 h2 h3 h4 h5 h6 h61 hwl e1 e2 hb
 go_enter_defers Tryz.func162,Tryz.ntmps162
 go_wp2_with (go_at_call 157;refine HGH.out.mono ?_;rintro e w1 ⟨cb,d,h,rfl,H⟩)
 have HH:Hid (Ga own i w g cb d h (sk (!s.fresh) s.col s.wait tv gv) w1 text gs):=H
 clear H
 refine (HH.out.text ⟨#[10]⟩ HL.out).mono ?_
 rintro e w2 ⟨rfl,H2⟩
 have HD:Hid (Ga own i w g cb d h (sk (!s.fresh) s.col s.wait tv gv) w2 (text++[10]) gs):=H2
 clear HH H2
 go_wp2_with fail
 refine leaves_cons (f:=199) (args:=#[.agg #[.bool false,.int .i64 c,.int .i64 0],.pointer (some ⟨cb,0,none⟩),.pointer (some ⟨d,0,none⟩),.pointer (some ⟨h,0,none⟩)]) (by simp) (by simp [go_sem]) ?_
 refine (HE.out _ _ _ _ .returning HD.out).mono ?_
 rintro e u' w'' ⟨rfl,rfl,hA⟩
 exact ⟨_,results_none rfl _ _ _,rfl,hA⟩
end Go.Proofs.YtpdlohfdjiaegaaGreatDoor.Lw
