import Derived.BigRegion
import Derived.Test.YtpdlohfdjiaegaaGreatDoorM19
set_option linter.unusedVariables false
set_option linter.unusedSimpArgs false
namespace Go.Proofs.YtpdlohfdjiaegaaGreatDoor.Lw
open Go.Proofs.YtpdlohfdjiaegaaGreatDoor.Lx
open Go.RowKit
theorem row_pop {β:Type}{enc:β→List Value}{sz:Nat}(hsz:∀x,(enc x).length=sz) {w:World}{e:Nat}{v:Value}{r:List β}{x:β}(h:w.ownsRow 0 e sz v (x :: r).length (flat enc (x :: r).reverse)) :
  ∃b cap,v=.slice (some ⟨b,0,none⟩) (r.length+1) cap∧r.length+1≤cap∧cap≤maxLen∧w.ownsRow 0 e sz (.slice (some ⟨b,0,none⟩) r.length cap) r.length (flat enc r.reverse)∧(∀j u,(enc x)[j]?=some u→w.cell? ⟨b,r.length*sz+j,none⟩=some u)∧∃cur,w.heap[b]?=some (.cells cur e (0,0)):=by
 have hcs:=fun b hb=>h.cells (g:=b) hb
 rcases h.2 with ⟨h1,h2⟩|⟨b,cap,cur,rfl,h2,h3,h4,h5,h6,h7⟩
 ·simp at h2
 ·have hr:(x :: r).reverse=r.reverse++[x]:=by simp
  rw [hr] at h7
  refine ⟨b,cap,rfl,h4,h5,⟨?_,.inr ⟨b,cap,cur,rfl,h2,h3,?_,h5,h6,?_⟩⟩,?_,cur,h3⟩
  ·rw [flat_len enc sz hsz,List.length_reverse]
  ·simp at h4;omega
  ·have:cur.toList.take (r.length*sz)=(cur.toList.take ((x :: r).length*sz)).take (r.length*sz):=by
    rw [List.take_take,Nat.min_eq_left (Nat.mul_le_mul_right _ (by simp))]
   rw [this,h7,flat_append,List.take_append_of_le_length (by rw [flat_len enc sz hsz,List.length_reverse];exact Nat.le_refl _),List.take_of_length_le (by rw [flat_len enc sz hsz,List.length_reverse];exact Nat.le_refl _)]
  ·intro j u hj
   have h8:(flat enc (x :: r).reverse)[r.length*sz+j]?=some u:=by
    rw [hr]
    refine flat_at enc sz hsz _ _ _ x u ?_ hj
    rw [List.getElem?_append_right (by simp)]
    simp
   have:=hcs b rfl _ u h8
   rw [Addr.add_lit,Nat.zero_add] at this
   exact this
theorem row_cells {w:World}{e sz n k:Nat}{v:Value}{xs:List Value}(h:w.ownsRow 0 e sz v n xs) (hk:v.ownBlock=some k):∀o,w.heap[k]?=some o→o.isCells=true:=by
 rcases h.2 with ⟨rfl,_⟩|⟨b,cap,cur,rfl,_,h3,_⟩
 ·cases hk
 ·cases hk;exact cells_of h3
theorem TL.push {B:Nat}{w W w2:World}{gb ga:Nat}{s:Sp}{st:List Sp}{v v2:Value}(h:TL B w gb ga s st) (hW:Below w.heap.size w W) (hB:B≤w.heap.size) (h1:W.heap[ga]?=some (.cells #[v] 217 (0,0))) (h2:∀k,v.ownBlock=some k→B≤k∧k≠gb) (ho:W.ownsRow 0 216 2 v st.length (flat spc st.reverse))
  (ho2:w2.ownsRow 0 216 2 v2 (st.length+1) (flat spc st.reverse++spc s)) (hg:W.grownBy w2 v.ownBlock) (hat:v2.ownBlock=v.ownBlock∨v2.ownBlock=some W.heap.size) :
  TL B (((w2.setCell ⟨ga,0,none⟩ v2).setCell ⟨gb,0,none⟩ (.int .i64 0)).setCell ⟨gb,1,none⟩ (.int .i64 0)) gb ga ⟨0,0⟩ (s :: st)∧Bo B gb ga w (((w2.setCell ⟨ga,0,none⟩ v2).setCell ⟨gb,0,none⟩ (.int .i64 0)).setCell ⟨gb,1,none⟩ (.int .i64 0)):=by
 have hne:=h.ne
 have hk:=Kp.of_grown hg
 have hgb:=blk_below h.hb hW
 have r1:=row_ne ho h1 (by decide)
 have g1:w2.heap[ga]?=some (.cells #[v] 217 (0,0)):=hk.blk h1 (fun e=>r1 e.symm)
 have g2:w2.heap[gb]?=some (.cells #[.int .i64 s.all,.int .i64 s.hang] 216 (0,0)):=hk.blk hgb (fun e=>(h2 gb e.symm).2 rfl)
 have r2:=row_ne ho2 g1 (by decide)
 have gbl:=blk_lt hgb
 have hv2:∀k,v2.ownBlock=some k→B≤k∧k≠gb:=by
  intro k hk
  rcases hat with e|e
  ·exact h2 k (by rw [←e];exact hk)
  ·rw [e] at hk
   injection hk with hk
   subst hk
   exact ⟨Nat.le_trans hB hW.size,by omega⟩
 have k1:=Kp.set w2 ga 0 v2
 have k2:=Kp.set (w2.setCell ⟨ga,0,none⟩ v2) gb 0 (.int .i64 0)
 have k3:=Kp.set ((w2.setCell ⟨ga,0,none⟩ v2).setCell ⟨gb,0,none⟩ (.int .i64 0)) gb 1 (.int .i64 0)
 refine ⟨⟨?_,⟨v2,?_,?_,hv2⟩⟩,?_⟩
 ·exact blk_set (blk_set (blk_other g2 (Ne.symm hne) _) 0 _) 1 _
 ·exact blk_other (blk_other (blk_set g1 0 _) hne _) hne _
 ·refine k3.row (k2.row (k1.row ?_ (fun k e1 e2=>r2 (by rw [e1,e2]))) (fun k e1 e2=>(hv2 k e1).2 e2)) (fun k e1 e2=>(hv2 k e1).2 e2)
  have:flat spc (s :: st).reverse=flat spc st.reverse++spc s:=by
   rw [List.reverse_cons,flat_append];simp [flat]
  rw [this]
  exact ho2
 ·have b0:Kp (Sx B gb ga) w w2:=(Kp.of_below hW).step hk (fun k _ e=>.inr (.inr (h2 k e.symm).1))
  refine ⟨((b0.step k1 (fun k _ e=>.inr (.inl e))).step k2 (fun k _ e=>.inl e)).step k3 (fun k _ e=>.inl e),?_⟩
  have o1:KeepsOthers W w2:=ko_kp hk (fun k e=>row_cells ho e.symm)
  have o2:=ko_kp k1 (fun k e=>by subst e;exact cells_of g1)
  have o3:=ko_kp k2 (fun k e=>by subst e;exact cells_of (blk_other g2 (Ne.symm hne) _))
  have o4:=ko_kp k3 (fun k e=>by subst e;exact cells_of (blk_set (blk_other g2 (Ne.symm hne) _) 0 _))
  exact (ko_below hW).trans (o1.trans (o2.trans (o3.trans o4)))
set_option maxHeartbeats 1000000 in
set_option maxRecDepth 100000 in
theorem tell_end {B:Nat}{w:World}{gb ga:Nat}{s:Sp}{st:List Sp}(h:TL B w gb ga s st) (hs:Sb s) (hB:B≤w.heap.size) (hn:st.length≤1000000000) :
  Calls Tryz.prog 153 #[.agg #[.int .u8 7,.string ⟨#[]⟩,.int .i64 0,.int .i64 0,.bool false],.pointer (some ⟨ga,0,none⟩),.pointer (some ⟨gb,0,none⟩)] w fun e w'=>TA B w gb ga (0,⟨0,0⟩,s :: st) e w':=by
 obtain ⟨i0,hi,hz0,hz1,hz2⟩:=info_parts Tryz.info216
 obtain ⟨v,h1,h2,h3⟩:=h.ha
 have gal:=blk_lt h1
 have gbl:=blk_lt h.hb
 have hnab:=h.ne
 have a0:w.cell? ⟨ga,0,none⟩=some v:=blk_cell h1 rfl
 have b0:w.cell? ⟨gb,0,none⟩=some (.int .i64 s.all):=blk_cell h.hb rfl
 have b1:w.cell? ⟨gb,1,none⟩=some (.int .i64 s.hang):=blk_cell h.hb rfl
 obtain ⟨p,cap,rfl,_,_⟩:=row_shape h2
 have hbW:Below w.heap.size w ((w.alloc (.cells #[.int .u8 7,.string ⟨#[]⟩,.int .i64 0,.int .i64 0,.bool false] 57)).alloc (.cells #[.int .i64 s.all,.int .i64 s.hang] 216)):=((Below.refl _ _).alloc (Nat.le_refl _) _).alloc (by rw [World.size_alloc];omega) _
 have hs2:(w.alloc (.cells #[.int .u8 7,.string ⟨#[]⟩,.int .i64 0,.int .i64 0,.bool false] 57)).heap.size=w.heap.size+1:=World.size_alloc _ _
 go_enter Tryz.func153,Tryz.ntmps153
 go_wp2_with (first|(at_builtin;refine wpList_append_own_at (P:=Tryz.prog) (w:=(w.alloc (.cells #[.int .u8 7,.string ⟨#[]⟩,.int .i64 0,.int .i64 0,.bool false] 57)).alloc (.cells #[.int .i64 s.all,.int .i64 s.hang] 216)) rfl _ _ 217 rfl 0 216 i0 (.agg #[.int .i64 0,.int .i64 0]) 2 16 Tryz.underlying217 hi hz0 hz1 hz2 rfl (by decide) _ _ _ rfl (row_below h2 hbW) ⟨w.heap.size+1,0,none⟩ 1 1 (spc s) rfl rfl ?c1 ?c2 ?c3 ?c4 ?c5 ?_))
 case c1=>exact two_new _ _ _ _ _ hs2.symm
 case c2=>intro u hu;simp [spc] at hu;rcases hu with rfl|rfl <;> rfl
 case c3=>unfold maxLen;omega
 case c4=>omega
 case c5=>omega
 intro v2 w2 ho2 hg2 _ hat
 obtain ⟨k1,k2⟩:=h.push hbW hB (blk_below h1 hbW) h3 (row_below h2 hbW) ho2 hg2 (by rw [World.size_alloc,hs2];exact hat)
 have hk:=Kp.of_grown hg2
 have r1:=row_ne h2 h1 (by decide)
 have g1:w2.heap[ga]?=some (.cells #[.slice p st.length cap] 217 (0,0)):=hk.blk (blk_below h1 hbW) (fun e=>r1 e.symm)
 have g2:w2.heap[gb]?=some (.cells #[.int .i64 s.all,.int .i64 s.hang] 216 (0,0)):=hk.blk (blk_below h.hb hbW) (fun e=>(h3 gb e.symm).2 rfl)
 have x0:=blk_cell (k:=0) g1 rfl
 have x1:=blk_frozen (k:=0) g1
 have y0:=blk_cell (k:=0) g2 rfl
 have y1:=blk_cell (k:=1) g2 rfl
 have y2:=blk_frozen (k:=0) g2
 have y3:=blk_frozen (k:=1) g2
 have HE:Hid (TL B (((w2.setCell ⟨ga,0,none⟩ v2).setCell ⟨gb,0,none⟩ (.int .i64 0)).setCell ⟨gb,1,none⟩ (.int .i64 0)) gb ga ⟨0,0⟩ (s :: st)∧Bo B gb ga w (((w2.setCell ⟨ga,0,none⟩ v2).setCell ⟨gb,0,none⟩ (.int .i64 0)).setCell ⟨gb,1,none⟩ (.int .i64 0))):=⟨k1,k2⟩
 obtain ⟨p2,cap2,rfl,_,_⟩:=row_shape ho2
 clear k1 k2 hk g1 g2 hg2 hat ho2 h h1 h2 h3 hbW r1
 go_wp2_with fail
 go_ret
 exact ⟨rfl,HE.out.1,HE.out.2⟩
theorem TL.pop {B:Nat}{w W:World}{gb ga:Nat}{s x:Sp}{r:List Sp}(h:TL B w gb ga s (x :: r)) (hW:Below w.heap.size w W) (hB:B≤w.heap.size):∃b cap,W.cell? ⟨ga,0,none⟩=some (.slice (some ⟨b,0,none⟩) (r.length+1) cap)∧r.length+1≤cap∧cap≤maxLen∧W.cell? ⟨b,r.length*2,none⟩=some (.int .i64 x.all)∧W.cell? ⟨b,r.length*2+1,none⟩=some (.int .i64 x.hang) ∧
  (b≠ga∧b≠gb∧b<w.heap.size) ∧
  TL B (((W.setCell ⟨gb,0,none⟩ (.int .i64 x.all)).setCell ⟨gb,1,none⟩ (.int .i64 x.hang)).setCell ⟨ga,0,none⟩ (.slice (some ⟨b,0,none⟩) r.length cap)) gb ga x r∧Bo B gb ga w (((W.setCell ⟨gb,0,none⟩ (.int .i64 x.all)).setCell ⟨gb,1,none⟩ (.int .i64 x.hang)).setCell ⟨ga,0,none⟩ (.slice (some ⟨b,0,none⟩) r.length cap)):=by
 have hne:=h.ne
 have hh:=h.below hW
 obtain ⟨v,h1,h2,h3⟩:=hh.ha
 obtain ⟨b,cap,rfl,c1,c2,c3,c4,cur,c5⟩:=row_pop spc_len h2
 have r1:=row_ne h2 h1 (by decide)
 have hb2:=h3 b rfl
 have hbw:b<w.heap.size:=by
  obtain ⟨v',h1',h2',h3'⟩:=h.ha
  have e:=blk_below h1' hW
  rw [h1] at e
  injection e with e
  injection e with e _
  have e2:v'=.slice (some ⟨b,0,none⟩) (r.length+1) cap:=by
   have:=congrArg (·[0]?) e
   simpa using this.symm
  subst e2
  exact (h2'.lt b rfl).2
 refine ⟨b,cap,blk_cell h1 rfl,c1,c2,c4 0 _ rfl,c4 1 _ rfl,⟨fun e=>r1 (by rw [e];rfl),hb2.2,hbw⟩,⟨?_,⟨.slice (some ⟨b,0,none⟩) r.length cap,?_,?_,fun k hk=>by cases hk;exact hb2⟩⟩,?_⟩
 ·exact blk_other (blk_set (blk_set hh.hb 0 _) 1 _) (Ne.symm hne) _
 ·exact blk_set (blk_other (blk_other h1 hne _) hne _) 0 _
 ·refine (Kp.set _ ga 0 _).row ((Kp.set _ gb 1 _).row ((Kp.set _ gb 0 _).row c3 ?_) ?_) ?_
  ·intro k e1 e2;cases e1;exact hb2.2 e2
  ·intro k e1 e2;cases e1;exact hb2.2 e2
  ·intro k e1 e2;cases e1;exact r1 (by rw [←e2];rfl)
 ·refine ⟨(((Kp.of_below hW).step (Kp.set W gb 0 _) (fun k _ e=>.inl e)).step (Kp.set _ gb 1 _) (fun k _ e=>.inl e)).step (Kp.set _ ga 0 _) (fun k _ e=>.inr (.inl e)),?_⟩
  have o2:=ko_kp (Kp.set W gb 0 (.int .i64 x.all)) (fun k e=>by subst e;exact cells_of hh.hb)
  have o3:=ko_kp (Kp.set (W.setCell ⟨gb,0,none⟩ (.int .i64 x.all)) gb 1 (.int .i64 x.hang)) (fun k e=>by subst e;exact cells_of (blk_set hh.hb 0 _))
  have o4:=ko_kp (Kp.set ((W.setCell ⟨gb,0,none⟩ (.int .i64 x.all)).setCell ⟨gb,1,none⟩ (.int .i64 x.hang)) ga 0 (.slice (some ⟨b,0,none⟩) r.length cap)) (fun k e=>by subst e;exact cells_of (blk_other (blk_other h1 hne _) hne _))
  exact (ko_below hW).trans (o2.trans (o3.trans o4))
theorem frm_step {o:Int}{j:Nat}{l:List Dc}{d:Dc}(hj:l[j]?=some d):frm o j (l.drop j)=if rt d=true∧0≤o+dep d.k then frm (o+dep d.k) (j+1) (l.drop (j+1)) else some j:=by
 obtain ⟨h1,h2⟩:=List.getElem?_eq_some_iff.1 hj
 rw [List.drop_eq_getElem_cons h1,h2]
 rfl
theorem frm_end {o:Int}{j:Nat}{l:List Dc}(hj:l.length≤j):frm o j (l.drop j)=if 0<o then some j else none:=by
 rw [List.drop_eq_nil_of_le hj];rfl
def ckr:Option Nat→Int × Int
 |some j=>(70,(j:Int))
 |none=>(0,0)
theorem chk_eq {l:List Dc}(h:¬2097152<l.length):chk l=ckr (frm 0 0 l):=by
 unfold chk
 rw [if_neg h]
 cases frm 0 0 l <;> rfl
set_option maxHeartbeats 2000000 in
set_option maxRecDepth 100000 in
theorem check_any (ao:Option Addr) (l:List Dc) (cap:Nat) (w:World) (hL:Lay w ao l) (hn:l.length≤9223372036854775807) :
  Calls Tryz.prog 152 #[.slice ao l.length cap] w fun e w'=>e=.returned (.tuple #[.int .i64 (chk l).1,.int .i64 (chk l).2])∧Below w.heap.size w w':=by
 by_cases hm:2097152<l.length
 ·have q0:(2097152:Int)<l.length:=by omega
  have HC:Hid (chk l=(2,0)):=by show _=_;unfold chk;rw [if_pos hm]
  go_enter Tryz.func152,Tryz.ntmps152
  go_wp2_with fail
  go_ret2
  rw [HC.out]
  exact ⟨rfl,Below.refl _ _⟩
 have q0:¬(2097152:Int)<l.length:=by omega
 have HC:Hid (chk l=ckr (frm 0 0 l)):=chk_eq hm
 have HL:Hid (Lay w ao l):=hL
 clear hL
 go_enter Tryz.func152,Tryz.ntmps152
 go_wp2_with fail
 go_loopw [4,12] (fun o j wr=>∃(k:Nat) (z:Int),k≤l.length∧o=.int .i64 z∧j=.int .i64 k∧0≤z∧z≤k∧Hid (frm z k (l.drop k)=frm 0 0 l∧Below w.heap.size w wr)) (fun _ j _=>l.length-(intOf j).toNat)
 case atStart=>exact ⟨0,0,by omega,rfl,rfl,by omega,by omega,rfl,Below.refl _ _⟩
 case round=>
  obtain ⟨k,z,hk,rfl,rfl,hz0,hz1,HI⟩:=hrel
  by_cases hlt:k<l.length
  ·have q1:(k:Int)<l.length:=by omega
   obtain ⟨d,hd⟩:∃d,l[k]?=some d:=⟨_,List.getElem?_eq_getElem hlt⟩
   obtain ⟨ht,b,off,rfl,c0,c1,c2,c3,c4⟩:=(HL.out.below HI.out.2) k d hd
   have HS:Hid ((if rt d=true∧0≤z+dep d.k then frm (z+dep d.k) (k+1) (l.drop (k+1)) else some k)=frm 0 0 l):=by
    show _=_;rw [←frm_step hd];exact HI.out.1
   have HB:Hid (Below w.heap.size w wr):=HI.out.2
   have HR:Hid (∀W,Calls Tryz.prog 194 #[d.v] W fun x w'=>x=.returned (.bool (rt d))∧Below W.heap.size W w'):=fun W=>right_any d ht W
   clear HI hd
   obtain ⟨dk,dt,db,di,de⟩:=d
   simp only [Dc.v] at HR
   simp only at c0 c1 c2 c3 c4 HS ht
   generalize rt ⟨dk,dt,db,di,de⟩=r at *
   have HX:Hid (r=true→0≤z+dep dk→frm (z+dep dk) (k+1) (l.drop (k+1))=frm 0 0 l):=fun h1 h2=>by rw [←HS.out,if_pos ⟨h1,h2⟩]
   have HY:Hid (¬(r=true∧0≤z+dep dk)→chk l=(70,(k:Int))):=fun h=>by rw [HC.out,←HS.out,if_neg h];rfl
   clear HS
   have HA:Hid (∀W w1,W=wr.alloc (.cells #[.int .u8 dk,.string dt,.int .i64 db,.int .i64 di,.bool de] 57)→Below W.heap.size W w1→Below w.heap.size w w1):=fun W w1 hW h=>by
    subst hW
    exact (HB.out.alloc HB.out.size _).trans (h.mono (by rw [World.size_alloc];have:=HB.out.size;omega))
   by_cases k6:dk=6
   ·subst k6
    have e6:z+dep 6=z+1:=rfl
    rw [e6] at HX HY
    cases r
    ·have HQ:Hid (chk l=(70,(k:Int))):=HY.out (by simp)
     clear HX HY
     go_wp2_with (go_at_call 194;refine (HR.out _).mono ?_;rintro e w1 ⟨rfl,hb1⟩)
     all_goals (go_ret2;rw [HQ.out];exact ⟨rfl,HA.out _ _ rfl hb1⟩)
    ·have HQ:Hid (frm (z+1) (k+1) (l.drop (k+1))=frm 0 0 l):=HX.out rfl (by omega)
     clear HX HY
     go_wp2_with (go_at_call 194;refine (HR.out _).mono ?_;rintro e w1 ⟨rfl,hb1⟩)
     exact ⟨⟨k+1,z+1,hlt,by go_num,by go_num,by omega,by omega,HQ.out,HA.out _ _ rfl hb1⟩,by simp [intOf];omega⟩
   by_cases k7:dk=7
   ·subst k7
    have e6:z+dep 7=z-1:=rfl
    rw [e6] at HX HY
    by_cases hz:0<z
    ·cases r
     ·have HQ:Hid (chk l=(70,(k:Int))):=HY.out (by simp)
      clear HX HY
      go_wp2_with (go_at_call 194;refine (HR.out _).mono ?_;rintro e w1 ⟨rfl,hb1⟩)
      all_goals (go_ret2;rw [HQ.out];exact ⟨rfl,HA.out _ _ rfl hb1⟩)
     ·have HQ:Hid (frm (z-1) (k+1) (l.drop (k+1))=frm 0 0 l):=HX.out rfl (by omega)
      clear HX HY
      go_wp2_with (go_at_call 194;refine (HR.out _).mono ?_;rintro e w1 ⟨rfl,hb1⟩)
      exact ⟨⟨k+1,z-1,hlt,by go_num,by go_num,by omega,by omega,HQ.out,HA.out _ _ rfl hb1⟩,by simp [intOf];omega⟩
    ·obtain rfl:z=0:=by omega
     have HQ:Hid (chk l=(70,(k:Int))):=HY.out (by omega)
     clear HX HY
     go_wp2_with (go_at_call 194;refine (HR.out _).mono ?_;rintro e w1 ⟨rfl,hb1⟩)
     all_goals (go_ret2;rw [HQ.out];exact ⟨rfl,HA.out _ _ rfl (Below.refl _ _)⟩)
   ·have e6:z+dep dk=z:=by simp [dep,k6,k7]
    rw [e6] at HX HY
    cases r
    ·have HQ:Hid (chk l=(70,(k:Int))):=HY.out (by simp)
     clear HX HY
     go_wp2_with (go_at_call 194;refine (HR.out _).mono ?_;rintro e w1 ⟨rfl,hb1⟩)
     all_goals (go_ret2;rw [HQ.out];exact ⟨rfl,HA.out _ _ rfl hb1⟩)
    ·have HQ:Hid (frm z (k+1) (l.drop (k+1))=frm 0 0 l):=HX.out rfl (by omega)
     clear HX HY
     go_wp2_with (go_at_call 194;refine (HR.out _).mono ?_;rintro e w1 ⟨rfl,hb1⟩)
     exact ⟨⟨k+1,z,hlt,by go_num,by go_num,by omega,by omega,HQ.out,HA.out _ _ rfl hb1⟩,by simp [intOf];omega⟩
  ·obtain rfl:k=l.length:=by omega
   have q1:¬((l.length:Int)<l.length):=by omega
   have he:=HI.out.1
   rw [frm_end (Nat.le_refl _)] at he
   have HB:Hid (Below w.heap.size w wr):=HI.out.2
   by_cases hz:0<z
   ·have HQ:Hid (chk l=(70,(l.length:Int))):=by show _=_;rw [HC.out,←he,if_pos hz];rfl
    clear HI he
    go_wp2_with fail
    go_ret2
    rw [HQ.out]
    exact ⟨rfl,HB.out⟩
   ·have HQ:Hid (chk l=(0,0)):=by show _=_;rw [HC.out,←he,if_neg hz];rfl
    clear HI he
    go_wp2_with fail
    go_ret2
    rw [HQ.out]
    exact ⟨rfl,HB.out⟩
theorem Tryz.info114:(Tryz.prog.info? 114).map (fun i=>(i.zero,i.size,i.bytes))=some (some (.agg #[.int .i64 0,.bool false,.bool false]),3,16):=by kernel_rfl
def bkc (b:Bk):List Value:=[.int .i64 b.ind,.bool b.ev,.bool b.ft]
theorem bkc_len (b:Bk):(bkc b).length=3:=rfl
def prc (n gs:Nat) (b:Bk) (v:Value) (en:Bool):Array Value:=#[.int .i64 n,.pointer (some ⟨gs,0,none⟩),.int .i64 b.ind,.bool b.ev,.bool b.ft,v,.bool en]
structure PS (B:Nat) (w0:World) (own:Nat→Nat) (W:World) (g gs n:Nat) (p:Pr):Prop where
 en:En own W
 lo:∀k,k<B→own k=0
 bel:Below B w0 W
 hB:B≤w0.heap.size
 sk:SK own 1 W gs p.sk
 pr:∃v,W.heap[g]?=some (.cells (prc n gs p.bl v p.en) 117 (0,0))∧(W.ownsRow 0 114 3 v p.ar.length (flat bkc p.ar.reverse)∧∀k,v.ownBlock=some k→own k=2)
 lab:own g=2
section
variable {B:Nat} {w0:World} {own:Nat→Nat} {W:World} {g gs n:Nat} {p:Pr}
theorem PS.c0 (h:PS B w0 own W g gs n p):W.cell? ⟨g,0,none⟩=some (.int .i64 n):=by obtain ⟨v,h1,_⟩:=h.pr;exact blk_cell h1 rfl
theorem PS.c1 (h:PS B w0 own W g gs n p):W.cell? ⟨g,1,none⟩=some (.pointer (some ⟨gs,0,none⟩)):=by obtain ⟨v,h1,_⟩:=h.pr;exact blk_cell h1 rfl
theorem PS.c2 (h:PS B w0 own W g gs n p):W.cell? ⟨g,2,none⟩=some (.int .i64 p.bl.ind):=by obtain ⟨v,h1,_⟩:=h.pr;exact blk_cell h1 rfl
theorem PS.c3 (h:PS B w0 own W g gs n p):W.cell? ⟨g,3,none⟩=some (.bool p.bl.ev):=by obtain ⟨v,h1,_⟩:=h.pr;exact blk_cell h1 rfl
theorem PS.c4 (h:PS B w0 own W g gs n p):W.cell? ⟨g,4,none⟩=some (.bool p.bl.ft):=by obtain ⟨v,h1,_⟩:=h.pr;exact blk_cell h1 rfl
theorem PS.c6 (h:PS B w0 own W g gs n p):W.cell? ⟨g,6,none⟩=some (.bool p.en):=by obtain ⟨v,h1,_⟩:=h.pr;exact blk_cell h1 rfl
theorem PS.fz (h:PS B w0 own W g gs n p) (k:Nat):W.frozen? ⟨g,k,none⟩=false:=by obtain ⟨v,h1,_⟩:=h.pr;exact blk_frozen h1
theorem PS.lt (h:PS B w0 own W g gs n p):g<W.heap.size:=by obtain ⟨v,h1,_⟩:=h.pr;exact blk_lt h1
theorem PS.bl (h:PS B w0 own W g gs n p):B≤W.heap.size:=Nat.le_trans h.hB h.bel.size
theorem PS.gB (h:PS B w0 own W g gs n p):B≤g:=by
 refine Nat.le_of_not_lt fun hlt=>?_
 have:=h.lo g hlt
 rw [h.lab] at this
 cases this
theorem PS.below (h:PS B w0 own W g gs n p) {W':World}(hb:Below W.heap.size W W'):PS B w0 own W' g gs n p:=by
 obtain ⟨v,h1,h2,h3⟩:=h.pr
 exact ⟨h.en.below hb,h.lo,h.bel.trans (hb.mono h.bl),h.hB,h.sk.below hb,⟨v,blk_below h1 hb,row_below h2 hb,h3⟩,h.lab⟩
def Sd (own own':Nat→Nat) (W W':World):Prop:=∀k,k<W.heap.size→own k=0→W'.heap[k]?=W.heap[k]?∧own' k=0
theorem Sd.refl (own:Nat→Nat) (W:World):Sd own own W W:=fun k _ h=>⟨rfl,h⟩
theorem Sd.trans {o1 o2 o3:Nat→Nat}{A C D:World}(h:Sd o1 o2 A C) (hs:A.heap.size≤C.heap.size) (k:Sd o2 o3 C D):Sd o1 o3 A D:=fun j hj h0=>
 ⟨(k j (by omega) (h j hj h0).2).1.trans (h j hj h0).1,(k j (by omega) (h j hj h0).2).2⟩
theorem PS.sink (h:PS B w0 own W g gs n p) {W':World}{s':St6}(ha:Ae own 1 W W' gs s'):∃own',PS B w0 own' W' g gs n { p with sk:=s' }∧Sd own own' W W'∧W.heap.size≤W'.heap.size:=by
 obtain ⟨own',e1,e2,e3⟩:=ha
 obtain ⟨v,h1,h2⟩:=h.pr
 have hlt:=blk_lt h1
 have hbl:=h.bl
 refine ⟨own',⟨e1,fun k hk=>(e2.old k (by omega)).trans (h.lo k hk),h.bel.trans (e2.below hbl h.lo (by omega)),h.hB,e3,⟨v,?_,fr_row e2 (by omega) h2⟩,(e2.old g hlt).trans h.lab⟩,fun k hk h0=>⟨e2.block k hk (by rw [h0];omega),(e2.old k hk).trans h0⟩,e2.size⟩
 exact (e2.block g hlt (by rw [h.lab];omega)).trans h1
theorem PS.sett (h:PS B w0 own W g gs n p) (b:Bool):PS B w0 own (W.setCell ⟨g,6,none⟩ (.bool b)) g gs n { p with en:=b }∧Sd own own W (W.setCell ⟨g,6,none⟩ (.bool b)):=by
 obtain ⟨v,h1,h2,h3⟩:=h.pr
 have hf:Fr 2 own own W (W.setCell ⟨g,6,none⟩ (.bool b)):=(Fr.refl 2 own W).set' h.lab 6 _
 have hn:Nf own (W.setCell ⟨g,6,none⟩ (.bool b)):=h.en.nf.below (Kp.set W g 6 _).size
 have r1:=row_ne h2 h1 (by decide)
 exact ⟨⟨h.en.fr (by omega) hn hf,h.lo,h.bel.setCell (p:=⟨g,6,none⟩) h.gB _,h.hB,h.sk.kept hf (by omega),⟨v,blk_set h1 6 _,(Kp.set W g 6 _).row h2 (fun k e1 e2=>r1 (by rw [e1,e2])),h3⟩,h.lab⟩,
  fun k hk h0=>⟨(Kp.set W g 6 (.bool b)).block k hk (fun e=>by subst e;rw [h.lab] at h0;cases h0),h0⟩⟩
end
set_option maxHeartbeats 1000000 in
theorem pfits_any {B:Nat}{w0:World}{own:Nat→Nat}{W:World}{g gs n:Nat}{p:Pr}(h:PS B w0 own W g gs n p) {U:Nat}(hp:Bp p U) (hU:U≤268435456) (need:Nat) (hnd:need≤1000000) (hn:n≤4096) :
  Calls Tryz.prog 109 #[.pointer (some ⟨g,0,none⟩),.int .i64 need] W fun e w'=>e=.returned (.bool (p.fits n need))∧Below W.heap.size W w':=by
 have hcol:=hp.col
 have HC:Hid (∀V,Below W.heap.size W V→Calls Tryz.prog 163 #[.pointer (some ⟨gs,0,none⟩)] V fun e w'=>e=.returned (.int .i64 ((p.sk.col:Int)+p.sk.wait))∧Below V.heap.size V w'):=fun V hV=>column_st (h.below hV).sk (by omega) (by omega)
 have c0:=h.c0
 have c1:=h.c1
 have hlt:=h.lt
 have HK:Hid (∀V,Below W.heap.size W V→V.cell? ⟨g,0,none⟩=some (.int .i64 n)∧V.cell? ⟨g,1,none⟩=some (.pointer (some ⟨gs,0,none⟩))∧Below W.heap.size W V):=fun V hV=>⟨(h.below hV).c0,(h.below hV).c1,hV⟩
 have e:p.fits n need=decide ((need:Int)≤(n:Int)-((p.sk.col:Int)+p.sk.wait)):=by
  unfold Pr.fits Pr.at
  rw [decide_eq_decide]
  omega
 rw [e]
 obtain ⟨z,hz⟩:∃z:Nat,p.sk.col+p.sk.wait=z:=⟨_,rfl⟩
 have hz2:(p.sk.col:Int)+p.sk.wait=(z:Int):=by omega
 rw [hz2] at HC ⊢
 have hzb:z≤268435456:=by omega
 have hwr:IntKind.i64.wrap ((n:Int)-z)=(n:Int)-z:=by rw [IntKind.wrap_i64];omega
 clear hz hz2 hcol e h hp
 go_enter Tryz.func109,Tryz.ntmps109
 go_wp2_with fail
 go_region_held3 (fun w'=>w'.cell? ⟨g,0,none⟩=some (.int .i64 n)∧w'.cell? ⟨g,1,none⟩=some (.pointer (some ⟨gs,0,none⟩))∧Below W.heap.size W w') (first|(exact HK.out _ (by assumption))|(exact HK.out _ (Below.refl _ _).drew)|go_keep) (first|(go_at_call 163;refine (HC.out _ (by first|assumption|exact (Below.refl _ _).drew)).mono ?_;rintro e w1 ⟨rfl,hb1⟩;have hbW:=(by first|exact (Below.refl W.heap.size W).drew.trans (hb1.mono (Nat.le_refl _))|assumption:Below W.heap.size W w1)))
 all_goals (
  go_wp2_with fail
  go_ret
  exact ⟨by rw [←hwr];rfl,hbW⟩)
theorem breaks_any {B:Nat}{w0:World}{own:Nat→Nat}{W:World}{g gs n:Nat}{p:Pr}(h:PS B w0 own W g gs n p) {U:Nat}(hp:Bp p U) (hU:U≤268435456) (need:Nat) (hnd:need≤1000000) (hn:n≤4096) :
  Calls Tryz.prog 106 #[.pointer (some ⟨g,0,none⟩),.int .i64 need] W fun e w'=>e=.returned (.bool (p.brk n need))∧Below W.heap.size W w':=by
 have HF:=pfits_any h hp hU need hnd hn
 have c3:=h.c3
 have c4:=h.c4
 unfold Pr.brk
 generalize p.fits n need=f at *
 generalize p.bl.ev=ev at *
 generalize p.bl.ft=ft at *
 clear h hp
 cases ev
 ·go_enter Tryz.func106,Tryz.ntmps106
  go_wp2_with (go_at_call 109;refine HF.mono ?_;rintro e w1 ⟨rfl,hb1⟩)
  go_ret
  exact ⟨rfl,hb1⟩
 ·go_enter Tryz.func106,Tryz.ntmps106
  go_wp2_with fail
  go_ret
  exact ⟨rfl,Below.refl _ _⟩
def PA (B:Nat) (w0:World) (own:Nat→Nat) (W:World) (g gs n:Nat) (p':Pr) (w':World):Prop:=∃own',PS B w0 own' w' g gs n p'∧Sd own own' W w'∧W.heap.size≤w'.heap.size
theorem hold_any {B:Nat}{w0:World}{own:Nat→Nat}{W:World}{g gs n:Nat}{p:Pr}(h:PS B w0 own W g gs n p) {U:Nat}(hp:Bp p U) (hU:U≤268435456) (m:Nat) (hm:m≤1000) :
  Calls Tryz.prog 105 #[.pointer (some ⟨g,0,none⟩),.int .i64 m] W fun e w'=>e=.returned (.tuple #[])∧PA B w0 own W g gs n (p.hold m) w':=by
 have hcol:=hp.col
 have HF:Hid (Calls Tryz.prog 159 #[.pointer (some ⟨gs,0,none⟩)] W fun e w'=>e=.returned (.bool p.sk.fresh)∧w'=W):=fresh_st h.sk
 have c1:=h.c1
 unfold Pr.hold
 cases hf:p.sk.fresh
 ·have HB:Hid (Calls Tryz.prog 160 #[.pointer (some ⟨gs,0,none⟩),.int .i64 m] W fun e w'=>e=.returned (.int .i64 0)∧PA B w0 own W g gs n { p with sk:=p.sk.blanks m } w'):=by
   refine (blanks_st h.sk h.en (by omega) m (by omega) (by omega)).mono ?_
   rintro e w' ⟨rfl,ha⟩
   exact ⟨rfl,h.sink ha⟩
  rw [hf] at HF
  clear h hp hf
  go_enter Tryz.func105,Tryz.ntmps105
  go_wp2_with (first|(go_at_call 159;refine HF.out.mono ?_;rintro e w1 ⟨rfl,rfl⟩)|(go_at_call 160;refine HB.out.mono ?_;rintro e w2 ⟨rfl,h2⟩))
  go_end0
  exact ⟨rfl,h2⟩
 ·have HE:Hid (PA B w0 own W g gs n p W):=⟨own,h,Sd.refl _ _,Nat.le_refl _⟩
  rw [hf] at HF
  clear h hp hf
  go_enter Tryz.func105,Tryz.ntmps105
  go_wp2_with (first|(go_at_call 159;refine HF.out.mono ?_;rintro e w1 ⟨rfl,rfl⟩))
  go_end0
  exact ⟨rfl,HE.out⟩
set_option maxHeartbeats 1000000 in
theorem endl_any {B:Nat}{w0:World}{own:Nat→Nat}{W:World}{g gs n:Nat}{p:Pr}(h:PS B w0 own W g gs n p) {U:Nat}(hp:Bp p U) (hU:U≤268435456) :
  Calls Tryz.prog 107 #[.pointer (some ⟨g,0,none⟩)] W fun e w'=>e=.returned (.tuple #[])∧PA B w0 own W g gs n p.endl w':=by
 have hcol:=hp.col
 have hout:=hp.out
 have hind:=hp.ind
 have HF:Hid (Calls Tryz.prog 159 #[.pointer (some ⟨gs,0,none⟩)] W fun e w'=>e=.returned (.bool p.sk.fresh)∧w'=W):=fresh_st h.sk
 have c1:=h.c1
 have c2:=h.c2
 have hlt:=h.lt
 unfold Pr.endl
 cases hf:p.sk.fresh
 ·have HB:Hid (∀V,V=W.drew→Calls Tryz.prog 161 #[.pointer (some ⟨gs,0,none⟩),.int .i64 p.bl.ind] V fun e w'=>e=.returned (.int .i64 0)∧Hid (PA B w0 own W g gs n { p with sk:=p.sk.feed p.bl.ind } w')∧w'.cell? ⟨g,1,none⟩=some (.pointer (some ⟨gs,0,none⟩))∧w'.cell? ⟨g,2,none⟩=some (.int .i64 p.bl.ind)∧w'.cell? ⟨g,6,none⟩=some (.bool p.en)∧w'.frozen? ⟨g,6,none⟩=false):=by
   intro V hV
   subst hV
   have hd:=h.below (Below.refl _ W).drew
   refine (feed_st hd.sk hd.en (by omega) p.bl.ind (by omega) (by omega)).mono ?_
   rintro e w' ⟨rfl,ha⟩
   obtain ⟨own',a1,a2,a3⟩:=hd.sink ha
   exact ⟨rfl,⟨own',a1,a2,a3⟩,a1.c1,a1.c2,a1.c6,a1.fz 6⟩
  rw [hf] at HF
  clear h hp hf
  go_enter Tryz.func107,Tryz.ntmps107
  go_wp2_with (first|(go_at_call 159;refine HF.out.mono ?_;rintro e w1 ⟨rfl,rfl⟩))
  go_region_held3 (fun w'=>w'.cell? ⟨g,1,none⟩=some (.pointer (some ⟨gs,0,none⟩))∧w'.cell? ⟨g,2,none⟩=some (.int .i64 p.bl.ind)) (first|(exact ⟨by assumption,by assumption⟩)|(exact ⟨c1,c2⟩)|go_keep) (first|(go_at_call 161;refine (HB.out _ rfl).mono ?_;rintro e w1 ⟨rfl,HP,x1,x2,x6,f6⟩))
  all_goals (
   go_wp2_with fail
   go_end0
   obtain ⟨own',a1,a2,a3⟩:=HP.out
   have a4:=a1.sett true
   exact ⟨rfl,own',a4.1,a2.trans a3 a4.2,Nat.le_trans a3 (Kp.set _ g 6 (.bool true)).size⟩)
 ·have HE:Hid (PA B w0 own W g gs n p W):=⟨own,h,Sd.refl _ _,Nat.le_refl _⟩
  rw [hf] at HF
  clear h hp hf
  go_enter Tryz.func107,Tryz.ntmps107
  go_wp2_with (first|(go_at_call 159;refine HF.out.mono ?_;rintro e w1 ⟨rfl,rfl⟩))
  go_end0
  exact ⟨rfl,HE.out⟩
end Go.Proofs.YtpdlohfdjiaegaaGreatDoor.Lw
