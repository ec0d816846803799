import Derived.Test.YtkigadnkclkopaaGreatDoorM43
set_option linter.unusedVariables false
set_option linter.unusedSimpArgs false
namespace Go.Proofs.YtkigadnkclkopaaGreatDoor
open Go.RowKit
def Stp (g:Nat) (D:Nat→Prop) (vs vt:Value) (W:World) (n:Int) (K:List It) (E:List Ev) (e:Ending) (w':World):Sr→Prop
 |.tk=>e=.returned (.int .i64 2)∧Below W.heap.size W w'
 |.ref=>e=.returned (.int .i64 0)∧Below W.heap.size W w'
 |.go d o r=>e=.returned (.int .i64 1)∧Gone g D vs vt W w' (n+d) (r++K) (E++o)
theorem aft_stp {g:Nat}{D:Nat→Prop}{vs vt:Value}{W:World}{n:Int}{K:List It}{E:List Ev}{e:Ending}{w':World}{t:Tv}{m:M}(h:PAft g D vs vt W n K E e w' (M.row t m)):Stp g D vs vt W n K E e w' (It.step t (.fl (.mt m))):=by
 show Stp g D vs vt W n K E e w' (M.row t m).sr
 cases hr:M.row t m with
 |ref=>rw [hr] at h;exact h
 |ex r=>rw [hr] at h;simpa [Stp,PAft,Gw.sr] using h
 |op nd r=>rw [hr] at h;simpa [Stp,PAft,Gw.sr] using h
theorem dd_stp {g:Nat}{D:Nat→Prop}{vs vt:Value}{W:World}{n:Int}{K:List It}{E:List Ev}{w':World}{b:Bool}(hb:Below W.heap.size W w'):Stp g D vs vt W n K E (.returned (.int .i64 (dd b))) w' (if b then .tk else .ref):=by
 cases b
 ·exact ⟨rfl,hb⟩
 ·exact ⟨rfl,hb⟩
theorem state_any {g:Nat}{D:Nat→Prop}{W:World}{n:Int}{K:List It}{E:List Ev}{vs vt:Value}(h:Psz g D W n K E vs vt) {v:Value}{i:It}(hv:Rep g D W v i) (t:Tv) :
  ∃f fi ca,v=.func (.func f) fi ca∧Ent f∧Calls Tryz.prog f (fi.push t.v++ca) W fun e w'=>Stp g D vs vt W n K E e w' (It.step t i):=by
 cases hv with
 |fl hx=>
  cases hx with
  |wd hl hd hn=>
   refine ⟨_,_,_,rfl,enters_of Tryz.func105 (by kernel_rfl) rfl,(stand_any _ _ _ _ t W hl hn).mono ?_⟩
   rintro e w' ⟨rfl,hb⟩
   exact dd_stp hb
  |nm=>
   refine ⟨_,_,_,rfl,enters_of Tryz.func70 (by kernel_rfl) rfl,(name_any t W).mono ?_⟩
   rintro e w' ⟨rfl,hb⟩
   exact dd_stp hb
  |cs=>
   refine ⟨_,_,_,rfl,enters_of Tryz.func206 (by kernel_rfl) rfl,(constant_any t W).mono ?_⟩
   rintro e w' ⟨rfl,hb⟩
   exact dd_stp hb
  |mt m=>
   cases m with
   |block=>exact ⟨_,_,_,rfl,enters_of Tryz.func72 (by kernel_rfl) rfl,(block_ps h t).mono (fun e w' ha=>aft_stp (m:=.block) ha)⟩
   |variables=>exact ⟨_,_,_,rfl,enters_of Tryz.func126 (by kernel_rfl) rfl,(variables_ps h t).mono (fun e w' ha=>aft_stp (m:=.variables) ha)⟩
   |constants=>exact ⟨_,_,_,rfl,enters_of Tryz.func127 (by kernel_rfl) rfl,(constants_ps h t).mono (fun e w' ha=>aft_stp (m:=.constants) ha)⟩
   |procedure=>exact ⟨_,_,_,rfl,enters_of Tryz.func128 (by kernel_rfl) rfl,(procedure_ps h t).mono (fun e w' ha=>aft_stp (m:=.procedure) ha)⟩
   |params=>exact ⟨_,_,_,rfl,enters_of Tryz.func177 (by kernel_rfl) rfl,(params_ps h t).mono (fun e w' ha=>aft_stp (m:=.params) ha)⟩
   |param=>exact ⟨_,_,_,rfl,enters_of Tryz.func194 (by kernel_rfl) rfl,(param_ps h t).mono (fun e w' ha=>aft_stp (m:=.param) ha)⟩
   |typed=>exact ⟨_,_,_,rfl,enters_of Tryz.func149 (by kernel_rfl) rfl,(typed_ps h t).mono (fun e w' ha=>aft_stp (m:=.typed) ha)⟩
   |kind=>exact ⟨_,_,_,rfl,enters_of Tryz.func154 (by kernel_rfl) rfl,(kind_ps h t).mono (fun e w' ha=>aft_stp (m:=.kind) ha)⟩
   |member=>exact ⟨_,_,_,rfl,enters_of Tryz.func178 (by kernel_rfl) rfl,(member_ps h t).mono (fun e w' ha=>aft_stp (m:=.member) ha)⟩
   |body=>exact ⟨_,_,_,rfl,enters_of Tryz.func109 (by kernel_rfl) rfl,(body_ps h t).mono (fun e w' ha=>aft_stp (m:=.body) ha)⟩
   |statement=>exact ⟨_,_,_,rfl,enters_of Tryz.func129 (by kernel_rfl) rfl,(statement_ps h t).mono (fun e w' ha=>aft_stp (m:=.statement) ha)⟩
   |expr=>exact ⟨_,_,_,rfl,enters_of Tryz.func150 (by kernel_rfl) rfl,(expr_ps h t).mono (fun e w' ha=>aft_stp (m:=.expr) ha)⟩
   |rel=>exact ⟨_,_,_,rfl,enters_of Tryz.func176 (by kernel_rfl) rfl,(rel_ps h t).mono (fun e w' ha=>aft_stp (m:=.rel) ha)⟩
   |sum=>exact ⟨_,_,_,rfl,enters_of Tryz.func193 (by kernel_rfl) rfl,(sum_ps h t).mono (fun e w' ha=>aft_stp (m:=.sum) ha)⟩
   |term=>exact ⟨_,_,_,rfl,enters_of Tryz.func204 (by kernel_rfl) rfl,(term_ps h t).mono (fun e w' ha=>aft_stp (m:=.term) ha)⟩
   |factor=>exact ⟨_,_,_,rfl,enters_of Tryz.func215 (by kernel_rfl) rfl,(factor_ps h t).mono (fun e w' ha=>aft_stp (m:=.factor) ha)⟩
   |object=>exact ⟨_,_,_,rfl,enters_of Tryz.func155 (by kernel_rfl) rfl,(object_ps h t).mono (fun e w' ha=>aft_stp (m:=.object) ha)⟩
   |index=>exact ⟨_,_,_,rfl,enters_of Tryz.func195 (by kernel_rfl) rfl,(index_ps h t).mono (fun e w' ha=>aft_stp (m:=.index) ha)⟩
   |selection=>exact ⟨_,_,_,rfl,enters_of Tryz.func196 (by kernel_rfl) rfl,(selection_ps h t).mono (fun e w' ha=>aft_stp (m:=.selection) ha)⟩
   |args=>exact ⟨_,_,_,rfl,enters_of Tryz.func197 (by kernel_rfl) rfl,(args_ps h t).mono (fun e w' ha=>aft_stp (m:=.args) ha)⟩
   |list=>exact ⟨_,_,_,rfl,enters_of Tryz.func205 (by kernel_rfl) rfl,(list_ps h t).mono (fun e w' ha=>aft_stp (m:=.list) ha)⟩
 |lv nd=>
  refine ⟨_,_,_,rfl,enters_of Tryz.func104 (by kernel_rfl) rfl,(leave_ps h.1 nd t h.2.1 h.2.2.1 h.2.2.2.2).mono ?_⟩
  rintro e w' ⟨rfl,hG⟩
  exact ⟨rfl,hG⟩
 |once hp=>
  refine ⟨_,_,_,rfl,enters_of Tryz.func152 (by kernel_rfl) rfl,(once_ps h.1 hp t h.2.2.2.1).mono ?_⟩
  rintro e w' ⟨rfl,hG⟩
  exact ⟨rfl,by simpa using hG⟩
 |again hp=>
  refine ⟨_,_,_,rfl,enters_of Tryz.func108 (by kernel_rfl) rfl,(again_ps h.1 hp t h.2.2.2.1).mono ?_⟩
  rintro e w' ⟨rfl,hG⟩
  exact ⟨rfl,by simpa using hG⟩
 |all hr=>
  refine ⟨_,_,_,rfl,enters_of Tryz.func181 (by kernel_rfl) rfl,(all_ps h.1 hr t h.2.2.2.1).mono ?_⟩
  rintro e w' ⟨rfl,hG⟩
  exact ⟨rfl,by simpa using hG⟩
theorem Rs.last {W:World}{v:Value}{ys:List Value}{x:Value}(h:Rs W v (ys++[x])):∃b cap,v=.slice (some ⟨b,0,none⟩) (ys.length+1) cap∧ys.length+1≤cap∧W.cell? ⟨b,ys.length,none⟩=some x∧(∀j,W.frozen? ⟨b,j,none⟩=false)∧b<W.heap.size ∧
  Rs (W.setCell ⟨b,ys.length,none⟩ .nilFunc) (.slice (some ⟨b,0,none⟩) ys.length cap) ys:=by
 rcases h.2 with ⟨_,h0⟩|⟨b,cap,cur,hv,h1,h2,h3,h4,h5,h6⟩
 ·simp at h0
 ·have hl:(ys++[x]).length=ys.length+1:=by simp
  rw [hl] at hv h3
  have hc:=h.cells (g:=b) (by rw [hv];rfl) ys.length x (by simp)
  rw [Addr.add_lit,Nat.zero_add] at hc
  refine ⟨b,cap,hv,h3,hc,fun j=>blk_frozen h2,blk_lt h2,by simp,.inr ⟨b,cap,cur.setIfInBounds ys.length .nilFunc,rfl,h1,blk_set h2 _ _,by omega,h4,by simpa using h5,?_⟩⟩
  rw [hl] at h6
  have e:cur.toList.take (ys.length*1)=ys:=by
   have:=congrArg (List.take ys.length) h6
   rw [List.take_take] at this
   simpa [Nat.min_eq_left] using this
  rw [Array.toList_setIfInBounds]
  rw [List.take_set_of_le (by omega)]
  exact e
theorem Al.snoc {α:Type}{R:Value→α→Prop}{vs:List Value}{xs:List α}{x:α}(h:Al R vs (xs++[x])):∃us u,vs=us++[u]∧Al R us xs∧R u x:=by
 induction xs generalizing vs with
 |nil=>
  cases h with
  |cons h1 h2=>cases h2;exact ⟨[],_,rfl,.nil,h1⟩
 |cons y r ih=>
  cases h with
  |cons h1 h2=>
   obtain ⟨us,u,rfl,a,b⟩:=ih h2
   exact ⟨_ :: us,u,rfl,.cons h1 a,b⟩
structure Nx (g:Nat) (D:Nat→Prop) (vs vt:Value) (W W':World) (n:Int) (K:List It) (E:List Ev) (v:Value) (i:It):Prop where
 ps:∃vs',Ps g D W' n K E vs' vt∧vs'.ownBlock=vs.ownBlock
 rp:Rep g D W' v i
 kp:Kp (fun k=>k=g∨vs.ownBlock=some k∨vt.ownBlock=some k) W W'
set_option maxHeartbeats 400000 in
theorem next_any {g:Nat}{D:Nat→Prop}{W:World}{n:Int}{K:List It}{E:List Ev}{vs vt:Value}{i:It}(h:Ps g D W n (i :: K) E vs vt) (hK:K.length≤10000000) :
  Calls Tryz.prog 74 #[pt g] W fun e w'=>∃v,e=.returned v∧Nx g D vs vt W w' n K E v i:=by
 obtain ⟨xs,h1,h2⟩:=h.st
 rw [List.reverse_cons] at h2
 obtain ⟨ys,v,rfl,h3,h4⟩:=h2.snoc
 obtain ⟨b,cap,rfl,hcap,hc,hf,hb,hR⟩:=h1.last
 have hyl:ys.length≤10000000:=by rw [h3.len,List.length_reverse];exact hK
 have hbg:b≠g:=h1.ne h.pb (by decide) b rfl
 have hN:∀k,D k→¬(k=b):=fun k hk e=>h.ds b rfl (e ▸ hk)
 have pb1:PB (W.setCell ⟨b,ys.length,none⟩ .nilFunc) g false 0 n (.slice (some ⟨b,0,none⟩) (ys.length+1) cap) vt:=h.pb.kp (Kp.set W b _ _) (fun e=>hbg e.symm)
 obtain ⟨fn,fi,ca,rfl⟩:=h4.isFn
 have HX:Hid (Nx g D (.slice (some ⟨b,0,none⟩) (ys.length+1) cap) vt W ((W.setCell ⟨b,ys.length,none⟩ .nilFunc).setCell ⟨g,3,none⟩ (.slice (some ⟨b,0,none⟩) ys.length cap)) n K E (.func fn fi ca) i):=by
  have k1:=Kp.set W b ys.length .nilFunc
  have k2:=Kp.set (W.setCell ⟨b,ys.length,none⟩ .nilFunc) g 3 (.slice (some ⟨b,0,none⟩) ys.length cap)
  have hW:∀k o,D k→W.heap[k]?=some o→((W.setCell ⟨b,ys.length,none⟩ .nilFunc).setCell ⟨g,3,none⟩ (.slice (some ⟨b,0,none⟩) ys.length cap)).heap[k]?=some o:=fun k o hk ho=>k2.blk (k1.blk ho (hN k hk)) (fun e=>h.dg (e ▸ hk))
  refine ⟨⟨_,⟨blk_set pb1 3 _,⟨ys,hR.kp k2 (hR.ne pb1 (by decide)),h3.mono (fun v x hx=>hx.turn (fun _ h=>h) hW)⟩,(h.ev.kp k1 (fun k hk e=>?_)).kp k2 ?_,h.dg,h.ds,h.dt,fun k hk=>Nat.lt_of_lt_of_le (Nat.lt_of_lt_of_le (h.dl k hk) k1.size) k2.size⟩,rfl⟩,h4.turn (fun _ h=>h) hW,?_⟩
  ·rcases h1.2 with ⟨e1,_⟩|⟨b',cap',cur,e1,_,e3,_⟩
   ·cases e1
   ·have e4:=congrArg Value.ownBlock e1
    simp only [Value.ownBlock,Option.some.injEq] at e4
    exact h.ev.ne e3 (by decide) k hk (e.trans e4)
  ·exact fun k hk e=>h.ev.ne h.pb (by decide) k hk e
  ·exact (k1.sub (fun k e=>.inr (.inl (by rw [e];rfl)))).step k2 (fun k _ e=>.inl e)
 obtain ⟨c0,c1,c2,c3,c4⟩:=h.pb.cells
 have hfg:=h.pb.frozen 3
 have hgl:=h.pb.lt
 have d3:(W.setCell ⟨b,ys.length,none⟩ .nilFunc).cell? ⟨g,3,none⟩=some (.slice (some ⟨b,0,none⟩) (ys.length+1) cap):=blk_cell pb1 rfl
 have f3:(W.setCell ⟨b,ys.length,none⟩ .nilFunc).frozen? ⟨g,3,none⟩=false:=pb1.frozen 3
 have fb:=hf ys.length
 have q0:(0:Int)≤ys.length:=by omega
 have q1:(ys.length:Int)<(ys.length+1:Nat):=by omega
 have q2:((ys.length+1:Nat):Int)-1=ys.length:=by omega
 have q3:IntKind.i64.wrap (((ys.length+1:Nat):Int)-1)=(ys.length:Int):=by rw [IntKind.wrap_i64];omega
 have q4:ys.length≤cap:=by omega
 clear h h1 h2 h3 h4 hR hf hN pb1 hK
 go_enter Tryz.func74,Tryz.ntmps74
 go_wp2_with fail
 go_ret
 exact ⟨_,rfl,HX.out⟩
end Go.Proofs.YtkigadnkclkopaaGreatDoor
