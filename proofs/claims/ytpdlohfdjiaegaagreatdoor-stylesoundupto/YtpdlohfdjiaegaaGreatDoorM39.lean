import Derived.Deep.RegionHeld3
import Derived.Deep.RegionWith
import Derived.WalkMore
import Derived.BigQuiet
import Derived.RangeFuncNested
import Derived.RangeFuncBound
import Derived.RangeFuncCalls
import Derived.RangeFuncLeaves
import Derived.Shelf.Abstract
import Derived.Shelf.RegionOpen
import Derived.OwnWalkIn
import Derived.TacticsInMore
import Derived.LoopNIn
import Derived.LoopIn
import Derived.RangeFuncOwn
import Derived.Test.YtpdlohfdjiaegaaGreatDoorM38
set_option linter.unusedVariables false
set_option linter.unusedSimpArgs false
namespace Go.Proofs.YtpdlohfdjiaegaaGreatDoor
open Go.RowKit
def PB (W:World) (g:Nat) (c:Bool) (e n:Int) (vs vt:Value):Prop:=W.heap[g]?=some (.cells #[.bool c,.int .i64 e,.int .i64 n,vs,vt] 104 (0,0))
theorem PB.cells {W:World}{g:Nat}{c:Bool}{e n:Int}{vs vt:Value}(h:PB W g c e n vs vt) :
  W.cell? ⟨g,0,none⟩=some (.bool c)∧W.cell? ⟨g,1,none⟩=some (.int .i64 e)∧W.cell? ⟨g,2,none⟩=some (.int .i64 n)∧W.cell? ⟨g,3,none⟩=some vs∧W.cell? ⟨g,4,none⟩=some vt:=
 ⟨blk_cell h rfl,blk_cell h rfl,blk_cell h rfl,blk_cell h rfl,blk_cell h rfl⟩
theorem PB.frozen {W:World}{g:Nat}{c:Bool}{e n:Int}{vs vt:Value}(h:PB W g c e n vs vt) (j:Nat):W.frozen? ⟨g,j,none⟩=false:=blk_frozen h
theorem PB.kp {S:Nat→Prop}{W W':World}{g:Nat}{c:Bool}{e n:Int}{vs vt:Value}(h:PB W g c e n vs vt) (hk:Kp S W W') (hS:¬S g):PB W' g c e n vs vt:=hk.blk h hS
theorem PB.below {W W':World}{g:Nat}{c:Bool}{e n:Int}{vs vt:Value}(h:PB W g c e n vs vt) (hb:Below W.heap.size W W'):PB W' g c e n vs vt:=blk_below h hb
theorem PB.lt {W:World}{g:Nat}{c:Bool}{e n:Int}{vs vt:Value}(h:PB W g c e n vs vt):g<W.heap.size:=blk_lt h
theorem pstep_ev {W:World}{ops:Array Oper}{o:Oper}{a:Act}{K:Act→World→Prop}{Q:Exit→Act→World→Prop}{E:Prop}(hgd:o.guard=none) (s x:Operand)
  (ho:o.op=.call { callee:=.builtin .append,args:=#[s,x],argTypes:=#[44,44] }) (v:Value) (l:List Ev) (d:Ev) (hs:a.eval s=v) (hr:Re W v l)
  (g c:Nat) (hx:a.eval x=.slice (some ⟨g,0,none⟩) 1 c) (hg:W.heap[g]?=some (.cells #[.int .u8 d.k,.int .u8 d.n,.int .u8 d.d.k,.string d.d.t,.int .i64 d.d.a,.int .i64 d.d.l,.int .i64 d.d.c,.int .i64 d.d.f] 39 (0,0))) (hl:l.length≤1000000000)
  (h:∀q cap w',Re w' (.slice (some ⟨q,0,none⟩) (l.length+1) cap) (l++[d])→W.grownBy w' v.ownBlock→(v.ownBlock=some q∨q=W.heap.size)→K (a.put o.dst (.slice (some ⟨q,0,none⟩) (l.length+1) cap)) w') :
  if Region.wanted o (yielded ops a.tmps)=true then Oper.wp Tryz.prog o a W K Q else E:=by
 obtain ⟨i0,hi,hz0,hz1,hz2⟩:=info_parts Tryz.info39
 refine step_append_lies W hgd s x 44 ho 0 39 i0 _ 8 64 Tryz.underlying44 hi hz0 hz1 hz2 rfl (by decide) v _ _ hs hr ⟨g,0,none⟩ 1 c (ecs [d]) hx (by rw [ecs_len];rfl) ?_ (ecs_one [d]) (by omega) (by unfold maxLen;omega) (by omega) (Nat.zero_le _) _ rfl ?_
 ·intro j u hu
  refine World.news_of_block hg j u ?_
  have e:ecs [d]=[.int .u8 d.k,.int .u8 d.n,.int .u8 d.d.k,.string d.d.t,.int .i64 d.d.a,.int .i64 d.d.l,.int .i64 d.d.c,.int .i64 d.d.f]:=by simp [ecs,flat,Ev.cs]
  rw [e] at hu
  simpa using hu
 ·intro q cap w' a1 a2 a3 _
  refine h q cap w' ?_ a2 a3
  unfold Re
  rw [List.length_append,ecs_app]
  exact a1
structure Told (W W':World) (g:Nat) (c:Bool) (e n:Int) (vs vt:Value) (E:List Ev):Prop where
 ex:∃vt',PB W' g c e n vs vt'∧Re W' vt' E∧Nb W vt vt'
 kp:Kp (fun k=>k=g∨vt.ownBlock=some k) W W'
theorem told_mk {W W1 w3:World}{g:Nat}{c:Bool}{e n:Int}{vs vt:Value}{E E':List Ev}(h:PB W g c e n vs vt) (hE:Re W vt E) (hb:Below W.heap.size W W1) {q cap n':Nat}(hr:Re w3 (.slice (some ⟨q,0,none⟩) n' cap) E') (hg:W1.grownBy w3 vt.ownBlock) (hq:vt.ownBlock=some q∨q=W1.heap.size) :
  (w3.cell? ⟨g,4,none⟩=some vt∧w3.frozen? ⟨g,4,none⟩=false)∧Told W (w3.setCell ⟨g,4,none⟩ (.slice (some ⟨q,0,none⟩) n' cap)) g c e n vs vt E':=by
 have h1:=h.below hb
 have hne:¬some g=vt.ownBlock:=fun e=>(hE.below hb).ne h1 (by decide) g e.symm rfl
 have h3:PB w3 g c e n vs vt:=h1.kp (Kp.of_grown hg) hne
 refine ⟨⟨blk_cell h3 rfl,h3.frozen 4⟩,⟨⟨.slice (some ⟨q,0,none⟩) n' cap,blk_set h3 4 _,hr.kp (Kp.set _ _ _ _) (hr.ne h3 (by decide)),?_⟩,?_⟩⟩
 ·rcases hq with hq|hq
  ·exact .inl hq.symm
  ·exact .inr ⟨q,rfl,by rw [hq];exact hb.size⟩
 ·exact ((Kp.of_below hb).step (Kp.of_grown hg) (fun k _ e=>.inr e.symm)).step (Kp.set _ _ _ _) (fun k _ e=>.inl e)
set_option maxHeartbeats 1000000 in
theorem ptell_any {W:World}{g:Nat}{c:Bool}{e n:Int}{vs vt:Value}{E:List Ev}(h:PB W g c e n vs vt) (hE:Re W vt E) (d:Ev) (hl:E.length≤1000000000) :
  Calls Tryz.prog 99 #[.pointer (some ⟨g,0,none⟩),d.v] W fun r w'=>r=.returned (.tuple #[])∧Told W w' g c e n vs vt (E++[d]):=by
 obtain ⟨p,cap,rfl,_⟩:=hE.shape
 have HW:Hid (∀V,Below W.heap.size W V→Re V (.slice p E.length cap) E):=fun V hb=>hE.below hb
 have HT:Hid (∀W1 w3 q cp,Below W.heap.size W W1→Re w3 (.slice (some ⟨q,0,none⟩) (E.length+1) cp) (E++[d])→W1.grownBy w3 (Value.slice p E.length cap).ownBlock→((Value.slice p E.length cap).ownBlock=some q∨q=W1.heap.size)→(w3.cell? ⟨g,4,none⟩=some (.slice p E.length cap)∧w3.frozen? ⟨g,4,none⟩=false)∧Told W (w3.setCell ⟨g,4,none⟩ (.slice (some ⟨q,0,none⟩) (E.length+1) cp)) g c e n vs (.slice p E.length cap) (E++[d])):=
  fun W1 w3 q cp hb h1 h2 h3=>told_mk h hE hb h1 h2 h3
 obtain ⟨c0,c1,c2,c3,c4⟩:=h.cells
 have hf:=h.frozen 4
 have hg:=h.lt
 clear h hE
 dsimp only [Ev.v]
 obtain ⟨⟨k0,n0,⟨k1,t,a,l,cc,f⟩⟩,hd⟩:∃x,d=x:=⟨_,rfl⟩
 subst hd
 go_enter Tryz.func99,Tryz.ntmps99
 go_wp2_with fail
 obtain ⟨W1,e1⟩:∃W1,W.alloc (.cells #[.int .u8 k0,.int .u8 n0,.int .u8 k1,.string t,.int .i64 a,.int .i64 l,.int .i64 cc,.int .i64 f] 39)=W1:=⟨_,rfl⟩
 have hb:Below W.heap.size W W1:=by rw [←e1];exact (Below.refl _ _).alloc (Nat.le_refl _) _
 have hn:W1.heap[W.heap.size]?=some (.cells #[.int .u8 k0,.int .u8 n0,.int .u8 k1,.string t,.int .i64 a,.int .i64 l,.int .i64 cc,.int .i64 f] 39):=by rw [←e1];exact new_at _ _
 rw [e1]
 clear e1
 have m0:W1.cell? ⟨W.heap.size,0,none⟩=_:=blk_cell hn rfl
 have m1:W1.cell? ⟨W.heap.size,1,none⟩=_:=blk_cell hn rfl
 have m2:W1.cell? ⟨W.heap.size,2,none⟩=_:=blk_cell hn rfl
 have m3:W1.cell? ⟨W.heap.size,3,none⟩=_:=blk_cell hn rfl
 have m4:W1.cell? ⟨W.heap.size,4,none⟩=_:=blk_cell hn rfl
 have m5:W1.cell? ⟨W.heap.size,5,none⟩=_:=blk_cell hn rfl
 have m6:W1.cell? ⟨W.heap.size,6,none⟩=_:=blk_cell hn rfl
 have m7:W1.cell? ⟨W.heap.size,7,none⟩=_:=blk_cell hn rfl
 have d4:W1.cell? ⟨g,4,none⟩=some (.slice p E.length cap):=(hb.cell hg).trans c4
 have HB:Hid (∀o,Below W.heap.size W (W1.drew.alloc o)):=fun o=>(hb.drew).alloc hb.size _
 have hg1:g<W1.heap.size:=Nat.lt_of_lt_of_le hg hb.size
 clear hb hn c0 c1 c2 c3 c4 hf hg
 go_region_law (refine pstep_ev (by rfl) _ _ (by rfl) (.slice p E.length cap) E ⟨k0,n0,⟨k1,t,a,l,cc,f⟩⟩ (by rfl) (HW.out _ (HB.out _)) W1.heap.size 1 (by rfl) (new_at W1.drew _) hl ?_;intro q cp w3 hr3 hg3 hq3;obtain ⟨⟨x1,x2⟩,x3⟩:=HT.out _ w3 q cp (HB.out _) hr3 hg3 hq3;have HX:=hid x3;clear x3 hr3 hg3 hq3)
 all_goals (
  go_wp2_with fail
  go_end0
  exact ⟨rfl,HX.out⟩)
def Ls (W:World) (ao:Option Addr) (l:List ByteArray):Prop:=∀j s,l[j]?=some s→∃b off,ao=some ⟨b,off,none⟩∧W.cell? ⟨b,off+j,none⟩=some (.string s)
theorem Ls.kp {S:Nat→Prop}{w w':World}{ao:Option Addr}{l:List ByteArray}(h:Ls w ao l) (hb:Kp S w w') (hS:∀a,ao=some a→¬S a.block):Ls w' ao l:=by
 intro j a ha
 obtain ⟨b,off,h1,c0⟩:=h j a ha
 have hlt:=World.block_lt_of_cell? _ _ c0
 have e:w'.heap[b]?=w.heap[b]?:=hb.block b hlt (hS _ h1)
 exact ⟨b,off,h1,(World.cell?_of_block (a:=⟨b,_,none⟩) e).trans c0⟩
theorem Ls.below {w w':World}{ao:Option Addr}{l:List ByteArray}(h:Ls w ao l) (hb:Below w.heap.size w w'):Ls w' ao l:=h.kp (Kp.of_below (S:=fun _=>False) hb) (fun _ _ h=>h)
theorem has_step (l:List ByteArray) (s x:ByteArray) (k:Nat) (hk:l[k]?=some x) (h:has (l.take k) s=false):has (l.take (k+1)) s=(s.toList == x.toList):=by
 rw [btl_eq]
 unfold has at h ⊢
 rw [List.take_add_one,hk,List.any_append,h]
 simp
theorem has_take (l:List ByteArray) (s:ByteArray) (k:Nat) (h:has (l.take k) s=true):has l s=true:=by
 unfold has at h ⊢
 simp only [List.any_eq_true] at h ⊢
 obtain ⟨x,hx,e⟩:=h
 exact ⟨x,List.mem_of_mem_take hx,e⟩
set_option maxHeartbeats 400000 in
theorem sIndex_any (ao:Option Addr) (l:List ByteArray) (cap:Nat) (s:ByteArray) (W:World) (h:Ls W ao l) (hl:l.length≤1000) :
  Calls Tryz.prog 218 #[.slice ao l.length cap,.string s] W fun r w'=>(∃z:Int,r=.returned (.int .i64 z)∧(decide (0≤z)=has l s))∧w'=W:=by
 have H:Hid (Ls W ao l):=h
 clear h
 go_enter Tryz.func218,Tryz.ntmps218
 go_wp2_with fail
 go_loopw [5,8] (fun _ i wr=>∃k:Nat,k≤l.length∧i=.int .i64 k∧Hid (has (l.take k) s=false)∧wr=W) (fun _ i _=>l.length-(intOf i).toNat)
 case atStart=>exact ⟨0,Nat.zero_le _,rfl,by show has _ _=_;simp [has],rfl⟩
 case round=>
  obtain ⟨k,hk,rfl,HI,rfl⟩:=hrel
  by_cases hlt:k<l.length
  ·have q1:(k:Int)<l.length:=by omega
   have q0:(0:Int)≤k:=by omega
   obtain ⟨x,hx⟩:∃x,l[k]?=some x:=⟨_,List.getElem?_eq_getElem hlt⟩
   obtain ⟨b,off,rfl,hc⟩:=H.out k x hx
   have HS:Hid (has (l.take (k+1)) s=(s.toList == x.toList)):=has_step l s x k hx HI.out
   have HT:Hid (has (l.take (k+1)) s=true→has l s=true):=has_take l s _
   clear hx
   by_cases he:(s.toList == x.toList)=true
   ·go_wp2_with fail
    go_ret
    exact ⟨⟨_,rfl,by rw [HT.out (HS.out.trans he)];simp⟩,rfl⟩
   ·have he':(s.toList == x.toList)=false:=by simpa using he
    clear he
    go_wp2_with fail
    exact ⟨⟨k+1,hlt,by go_num,HS.out.trans he',trivial⟩,by simp [intOf];omega⟩
  ·obtain rfl:k=l.length:=by omega
   have q1:¬((l.length:Int)<l.length):=by omega
   go_wp2_with fail
   go_ret
   refine ⟨⟨_,rfl,?_⟩,rfl⟩
   have:=HI.out
   rw [List.take_length] at this
   rw [this]
   rfl
theorem sContains_any (ao:Option Addr) (l:List ByteArray) (cap:Nat) (s:ByteArray) (W:World) (h:Ls W ao l) (hl:l.length≤1000) :
  Calls Tryz.prog 188 #[.slice ao l.length cap,.string s] W fun r w'=>r=.returned (.bool (has l s))∧w'=W:=by
 have H:Hid (Calls Tryz.prog 218 #[.slice ao l.length cap,.string s] W fun r w'=>(∃z:Int,r=.returned (.int .i64 z)∧(decide (0≤z)=has l s))∧w'=W):=sIndex_any ao l cap s W h hl
 clear h
 generalize has l s=b at *
 go_enter Tryz.func188,Tryz.ntmps188
 go_wp2_with (go_at_call 218;refine H.out.mono ?_;rintro r w1 ⟨⟨z,rfl,hz⟩,rfl⟩;subst hz)
 go_ret
 exact ⟨by simp,rfl⟩
def dd (b:Bool):Int:=if b then 2 else 0
theorem takenIf_any (b:Bool) (W:World):Calls Tryz.prog 148 #[.bool b] W fun r w'=>r=.returned (.int .i64 (dd b))∧w'=W:=by
 cases b
 ·go_enter Tryz.func148,Tryz.ntmps148
  go_wp2_with fail
  go_ret
  exact ⟨rfl,rfl⟩
 ·go_enter Tryz.func148,Tryz.ntmps148
  go_wp2_with fail
  go_ret
  exact ⟨rfl,rfl⟩
set_option maxHeartbeats 400000 in
theorem name_any (t:Tv) (W:World):Calls Tryz.prog 96 #[t.v] W fun r w'=>r=.returned (.int .i64 (dd (t.k == 1)))∧Below W.heap.size W w':=by
 dsimp only [Tv.v]
 go_enter Tryz.func96,Tryz.ntmps96
 go_wp2_with (go_at_call 148;refine (takenIf_any _ _).mono ?_;rintro r w1 ⟨rfl,rfl⟩)
 go_ret
 exact ⟨rfl,(Below.refl _ _).alloc (Nat.le_refl _) _⟩
set_option maxHeartbeats 400000 in
theorem constant_any (t:Tv) (W:World):Calls Tryz.prog 262 #[t.v] W fun r w'=>r=.returned (.int .i64 (dd (t.k == 3 || t.k == 4 || t.k == 5)))∧Below W.heap.size W w':=by
 dsimp only [Tv.v]
 by_cases h3:(t.k == 3)=true
 ·rw [h3]
  go_enter Tryz.func262,Tryz.ntmps262
  go_wp2_with (go_at_call 148;refine (takenIf_any _ _).mono ?_;rintro r w1 ⟨rfl,rfl⟩)
  go_ret
  exact ⟨rfl,(Below.refl _ _).alloc (Nat.le_refl _) _⟩
 ·have h3':(t.k == 3)=false:=by simpa using h3
  clear h3
  by_cases h4:(t.k == 4)=true
  ·rw [h3',h4]
   go_enter Tryz.func262,Tryz.ntmps262
   go_wp2_with (go_at_call 148;refine (takenIf_any _ _).mono ?_;rintro r w1 ⟨rfl,rfl⟩)
   go_ret
   exact ⟨rfl,(Below.refl _ _).alloc (Nat.le_refl _) _⟩
  ·have h4':(t.k == 4)=false:=by simpa using h4
   clear h4
   rw [h3',h4']
   go_enter Tryz.func262,Tryz.ntmps262
   go_wp2_with (go_at_call 148;refine (takenIf_any _ _).mono ?_;rintro r w1 ⟨rfl,rfl⟩)
   go_ret
   exact ⟨rfl,(Below.refl _ _).alloc (Nat.le_refl _) _⟩
theorem stand_any (k:Int) (ao:Option Addr) (l:List ByteArray) (cap:Nat) (t:Tv) (W:World) (h:Ls W ao l) (hl:l.length≤1000) :
  Calls Tryz.prog 147 #[.agg #[.int .u8 k,.slice ao l.length cap],t.v] W fun r w'=>r=.returned (.int .i64 (dd (t.k == k && has l t.t)))∧Below W.heap.size W w':=by
 have H:Hid (∀V,Below W.heap.size W V→Calls Tryz.prog 188 #[.slice ao l.length cap,.string t.t] V fun r w'=>r=.returned (.bool (has l t.t))∧w'=V):=fun V hb=>sContains_any ao l cap t.t V (h.below hb) hl
 clear h
 dsimp only [Tv.v]
 generalize has l t.t=b at *
 have HA:Hid (Below W.heap.size W ((W.alloc (.cells #[.int .u8 k,.slice ao l.length cap] 208)).alloc (.cells #[.int .u8 t.k,.string t.t,.int .i64 t.a,.int .i64 t.l,.int .i64 t.c,.int .i64 t.f] 37))):=((Below.refl _ _).alloc (Nat.le_refl _) _).alloc (by rw [World.size_alloc];exact Nat.le_succ _) _
 by_cases hk:(t.k == k)=true
 ·rw [hk,Bool.true_and]
  go_enter Tryz.func147,Tryz.ntmps147
  go_wp2_with (first|(go_at_call 188;refine (H.out _ HA.out).mono ?_;rintro r w1 ⟨rfl,rfl⟩)|(go_at_call 148;refine (takenIf_any _ _).mono ?_;rintro r w1 ⟨rfl,rfl⟩))
  go_ret
  exact ⟨rfl,HA.out⟩
 ·have hk':(t.k == k)=false:=by simpa using hk
  clear hk
  rw [hk',Bool.false_and]
  go_enter Tryz.func147,Tryz.ntmps147
  go_wp2_with (first|(go_at_call 148;refine (takenIf_any _ _).mono ?_;rintro r w1 ⟨rfl,rfl⟩))
  go_ret
  exact ⟨rfl,HA.out⟩
abbrev wdV (k:Int) (v:Value):Value:=.func (.func 147) #[.agg #[.int .u8 k,v]] #[]
theorem key_any (v:Value) (W:World) (p:Option Addr) (n c:Nat) (hv:v=.slice p n c):Calls Tryz.prog 95 #[v] W fun r w'=>r=.returned (wdV 2 v)∧w'=W:=by
 subst hv
 have hmf:∀(fn:Fn) (first cap:Array Value) (w:World),(Instr.makeFunc fn first cap).run Tryz.prog w=.ok (.func fn first cap) w:=fun _ _ _ _=>rfl
 go_enter Tryz.func95,Tryz.ntmps95
 go_wp2_with fail
 go_ret
 exact ⟨rfl,rfl⟩
theorem sign_any (v:Value) (W:World) (p:Option Addr) (n c:Nat) (hv:v=.slice p n c):Calls Tryz.prog 97 #[v] W fun r w'=>r=.returned (wdV 6 v)∧w'=W:=by
 subst hv
 have hmf:∀(fn:Fn) (first cap:Array Value) (w:World),(Instr.makeFunc fn first cap).run Tryz.prog w=.ok (.func fn first cap) w:=fun _ _ _ _=>rfl
 go_enter Tryz.func97,Tryz.ntmps97
 go_wp2_with fail
 go_ret
 exact ⟨rfl,rfl⟩
end Go.Proofs.YtpdlohfdjiaegaaGreatDoor
namespace Go.Proofs.YtpdlohfdjiaegaaGreatDoor
open Go.RowKit Go.Shelf
attribute [local go_sem] Oper.semAt_some
def Goes (F:Fence) (n:Nat) (P:Program) (gf:Nat) (lb:Array Value) (it:Nat→Array Value) (N:Nat) (G:World→Prop):Prop:=
 ∀(l:Nat) (J:Nat→World→Prop) (W:World),(∀j W,J j W→G W)→AbidesFrom W.heap.size J→(∀j W1,j<N→J j W1→YieldAt F (n-1) P l (it j) W1 fun e W'=>e=.returned (.bool true)∧J (j+1) W')→J 0 W →
  CallsIn F n P gf (#[.func (.yield l) #[] #[]]++lb) W fun e W'=>(∃v,e=.returned v)∧J N W'
theorem wpIn_goes {F:Fence}{n:Nat}{P:Program}{g:Operand}{ps:Array Tmp}{assign body:Code}{Q:Exit→Act→World→Prop}{a:Act}{w:World}(hro:F.round=none) (h1:1≤n) {gf:Nat}{lb:Array Value}(hg:a.eval g=.func (.func gf) #[] lb) (hF:F.fn gf)
  (eg:∀args w,(callFunc gf args).run P w=.ok (.enter gf args) w) {it:Nat→Array Value} {N:Nat} {G:World→Prop} (hit:Goes F (n-1) P gf lb it N G) (hps:∀j,(it j).size=ps.size)
  (I:Nat→World→Prop) (hI:OwnFrom w.heap.size I) (hG:∀j W,I j W→G W) (h0:I 0 w) (Ax:Nat→Act→World→Prop) (hAx:∀j a',OwnFrom w.heap.size (fun (_:Unit) W=>Ax j a' W))
  (hassign:∀(l j:Nat) (W:World) (K:Act→World→Prop),j<N→I j W→(∀a' W',KeepsFrom w.heap.size W W'→I j W'→Ax j a' W'→K a' W') →
   assign.wpIn (F.inRound l) (n-1-1) P (Exit.then K (fun _ _ _=>False)) { tmps:=(ps.zip (it j)).foldl (fun t (p,v)=>t.setIfInBounds p v) a.tmps,defers:=[] } W)
  (hbody:∀(l j:Nat) (a':Act) (W:World),j<N→I j W→Ax j a' W→body.wpIn (F.inRound l) (n-1-1) P (fun e _ W'=>e=.normal∧KeepsFrom w.heap.size W W'∧I (j+1) W') a' W)
  (hdone:∀(D:Nat) (W:World),w.heap.size≤D→I N W→W.heap[D]?=some (.deferred (some []))→Q .normal { a with defers:={ target:=.collected D,args:=#[] } :: a.defers } W) :
  (Code.rangeFunc g ps assign body).wpIn F n P Q a w:=by
 refine wpIn_rangeFunc fun fn hfn=>?_
 rw [hro]
 obtain ⟨L,hL⟩:∃L:LoopState→Loop,∀st,L st={ state:=st,pending:=none,fn,tmps:=a.tmps,params:=ps,assign,body,defers:=w.heap.size }:=⟨_,fun _=>rfl⟩
 have hent:=run_enterLoop_outer (P:=P) (w:=w) fn a.tmps ps assign body
 rw [←hL] at hent
 obtain ⟨V,hV⟩:∃V,(w.alloc (.deferred (some []))).alloc (.loop (L .ready))=V:=⟨_,rfl⟩
 rw [hV] at hent
 have e1:(w.alloc (.deferred (some []))).heap.size=w.heap.size+1:=World.size_alloc _ _
 have vr:V.heap[w.heap.size+1]?=some (.loop (L .ready)):=by rw [←hV,←e1];exact new_at _ _
 have vd:V.heap[w.heap.size]?=some (.deferred (some [])):=by rw [←hV];exact alloc_at' (new_at _ _) _
 have vs:w.heap.size+2≤V.heap.size:=by rw [←hV,World.size_alloc,e1];exact Nat.le_refl _
 have vi:I 0 V:=by rw [←hV];exact hI.alloc _ (hI.alloc _ h0)
 refine ⟨w.heap.size+1,_,V,{ target:=.fn (.func gf) lb,args:=#[.func (.yield (w.heap.size+1)) #[] #[]] },V,gf,#[.func (.yield (w.heap.size+1)) #[] #[]]++lb,V,hent,?_,?_,?_,fun _=>h1,?_⟩
 ·simp only [resolve,hg];simp [go_sem]
 ·intro f' hf';simp [Target.leads] at hf';subst hf';exact hF
 ·simp [invoke,go_sem,eg]
 refine (hit (w.heap.size+1) (fun j W=>I j W∧W.heap[w.heap.size+1]?=some (.loop (L .ready))∧W.heap[w.heap.size]?=some (.deferred (some []))) V (fun j W h=>hG j W h.1) ?_ ?_ ⟨vi,vr,vd⟩).mono ?_
 ·intro j A B row hs hgr hr
  refine ⟨hI j A B row hs.1 hgr fun r e=>?_,(grownBy_keeps hgr (fun r e=>(hr r e).2) hs.2.1 rfl).trans hs.2.1,(grownBy_keeps hgr (fun r e=>(hr r e).2) hs.2.2 rfl).trans hs.2.2⟩
  obtain ⟨hb,o,ho,hw⟩:=hr r e
  exact ⟨by omega,o,ho,Obj.not_cells_of_walk hw⟩
 ·rintro j W hj ⟨hi,hr,hd⟩
  have hy:=run_yield (P:=P) (args:=it j) hr (by rw [hL];exact hps j)
  rw [hL] at hy
  refine ⟨fn,_,assign,body,hy,roundIn_of_wpIn hfn (hassign _ j W _ hj hi ?_)⟩
  intro a' W' hk hi' hax
  have hr':=hk.same _ _ (by omega) hr rfl
  have hd':=hk.same _ _ (Nat.le_refl _) hd rfl
  have hlt:=blk_lt hr'
  refine ⟨_,run_beginRound hr' (by rw [hL]),?_⟩
  obtain ⟨W2,hW2⟩:∃W2,W'.putObj (w.heap.size+1) (.loop { L .ready with state:=.busy })=W2:=⟨_,rfl⟩
  have r2:W2.heap[w.heap.size+1]?=some (.loop { L .ready with state:=.busy }):=by rw [←hW2];exact World.putObj_heap_same hlt
  have d2:W2.heap[w.heap.size]?=some (.deferred (some [])):=by rw [←hW2];exact (World.putObj_heap_other (by omega)).trans hd'
  have i2:I j W2:=by rw [←hW2];exact hI.putObj _ hi' (by omega) hr' rfl
  have x2:Ax j a' W2:=by rw [←hW2];exact (hAx j a').putObj (s:=()) _ hax (by omega) hr' rfl
  rw [hW2]
  refine wpIn_mono (hbody _ j a' W2 hj i2 x2) ?_
  rintro e a3 W3 ⟨rfl,hk3,i3⟩
  have r3:=hk3.same _ _ (by omega) r2 rfl
  have d3:=hk3.same _ _ (Nat.le_refl _) d2 rfl
  have hend:=run_endRound (P:=P) none r3
  rw [hL] at hend
  refine ⟨_,_,hend,rfl,hI.putObj _ i3 (by omega) r3 rfl,?_,(World.putObj_heap_other (by omega)).trans d3⟩
  rw [World.putObj_heap_same (blk_lt r3),hL]
  rfl
 ·rintro e W ⟨⟨v,rfl⟩,hi,hr,hd⟩
  have hend:=run_endLoop (P:=P) hr (by rw [hL];simp)
  rw [hL] at hend
  exact ⟨none,_,hend,hdone _ _ (Nat.le_refl _) (hI.putObj _ hi (by omega) hr rfl) ((World.putObj_heap_other (by omega)).trans hd)⟩
attribute [local go_sem] Oper.semAt_some
theorem ko_below {w w':World}(h:Below w.heap.size w w'):KeepsOthers w w':=⟨h.size,fun k o hk _=>(h.block k (blk_lt hk)).trans hk⟩
theorem ko_kp {S:Nat→Prop}{w w':World}(h:Kp S w w') (hS:∀k,S k→∀o,w.heap[k]?=some o→o.isCells=true):KeepsOthers w w':=
 ⟨h.size,fun k o hk ho=>h.blk hk (fun hs=>by rw [hS k hs o hk] at ho;cases ho)⟩
theorem keeps_cell {W W':World}{row:Option Nat}(hg:W.grownBy W' row) (hrow:∀r,row=some r→∃o:Obj,W.heap[r]?=some o∧o.isCells=false) {k:Nat}{cs:Array Value}{T:TypeId}{f:Nat × Nat}(h:W.heap[k]?=some (.cells cs T f)):W'.heap[k]?=some (.cells cs T f):=
 (grownBy_keeps_cells hg hrow h rfl).trans h
theorem keeps_row {W W':World}{row:Option Nat}(hg:W.grownBy W' row) (hrow:∀r,row=some r→∃o:Obj,W.heap[r]?=some o∧o.isCells=false) {e sz n:Nat}{v:Value}{xs:List Value}(h:W.ownsRow 0 e sz v n xs):W'.ownsRow 0 e sz v n xs:=by
 refine ⟨h.1,?_⟩
 rcases h.2 with h1|⟨g,cap,cur,rfl,a1,a2,a3⟩
 ·exact .inl h1
 ·exact .inr ⟨g,cap,cur,rfl,a1,keeps_cell hg hrow a2,a3⟩
def Lv (W:World) (ao:Option Addr) (l:List Value):Prop:=∀j s,l[j]?=some s→(∃fn fi ca,s=.func fn fi ca)∧∃b off,ao=some ⟨b,off,none⟩∧W.cell? ⟨b,off+j,none⟩=some s
theorem Lv.kp {S:Nat→Prop}{w w':World}{ao:Option Addr}{l:List Value}(h:Lv w ao l) (hb:Kp S w w') (hS:∀a,ao=some a→¬S a.block):Lv w' ao l:=by
 intro j a ha
 obtain ⟨h0,b,off,h1,c0⟩:=h j a ha
 have hlt:=World.block_lt_of_cell? _ _ c0
 have e:w'.heap[b]?=w.heap[b]?:=hb.block b hlt (hS _ h1)
 exact ⟨h0,b,off,h1,(World.cell?_of_block (a:=⟨b,_,none⟩) e).trans c0⟩
theorem backward_any (ao:Option Addr) (n cap:Nat) (w:World):Calls Tryz.prog 187 #[.slice ao n cap] w fun e w'=>e=.returned (.func (.func 217) #[] #[.pointer (some ⟨w.heap.size,0,none⟩)])∧w'=w.alloc (.cells #[.slice ao n cap] 102):=by
 have hmf:∀(fn:Fn) (first cap:Array Value) (w:World),(Instr.makeFunc fn first cap).run Tryz.prog w=.ok (.func fn first cap) w:=fun _ _ _ _=>rfl
 go_enter Tryz.func187,Tryz.ntmps187
 go_wp2_with fail
 go_ret
 exact ⟨rfl,rfl⟩
def itB (l:List Value) (j:Nat):Array Value:=#[.int .i64 ((l.length-1-j:Nat):Int),l.getD (l.length-1-j) .nilFunc]
set_option maxRecDepth 100000 in
set_option maxHeartbeats 2000000 in
theorem backward_goes (n:Nat) (hn:1≤n) (Bn:Nat) (ao:Option Addr) (l:List Value) (cap:Nat) (hl:l.length≤1000000) :
  Goes Fence.wide n Tryz.prog 217 #[.pointer (some ⟨Bn,0,none⟩)] (itB l) l.length (fun W=>W.cell? ⟨Bn,0,none⟩=some (.slice ao l.length cap)∧Lv W ao l):=by
 intro lp J W hG hA hY h0
 refine callsIn_of_wp Tryz.func217 rfl trivial ?_ rfl
 simp only [Tryz.ntmps217,List.size_toArray,List.length_cons,List.length_nil,Nat.reduceAdd,Nat.reduceSub,Array.replicate_succ,Array.replicate_zero,List.push_toArray,List.append_toArray,List.nil_append,List.cons_append]
 have g0:=(hG 0 W h0).1
 have hln:(l.length:Int)≤1000000:=by omega
 gi_wp2
 gi_loopw [3] (fun i wr=>∃(j:Nat) (z:Int),i=.int .i64 z∧z=(l.length:Int)-1-j∧j≤l.length∧J j wr) (fun i _=>(intOf i+1).toNat)
 case atStart=>exact ⟨0,_,by go_num,by omega,Nat.zero_le _,h0⟩
 case round=>
  obtain ⟨j,z,rfl,hz,hj,hJ⟩:=hrel
  by_cases hlt:j<l.length
  ·obtain ⟨k,hk⟩:∃k:Nat,z=k:=⟨z.toNat,by omega⟩
   subst hk
   have hkl:k<l.length:=by omega
   have hkj:l.length-1-j=k:=by omega
   obtain ⟨d,hd⟩:∃d,l[k]?=some d:=⟨_,List.getElem?_eq_getElem hkl⟩
   obtain ⟨gc,gL⟩:=hG j wr hJ
   obtain ⟨ht,b,off,rfl,c0⟩:=gL k d hd
   have q1:(0:Int)≤k:=by omega
   have q2:(k:Int)<l.length:=by omega
   have hit:itB l j=#[.int .i64 (k:Int),d]:=by
    unfold itB
    rw [hkj,List.getD_eq_getElem?_getD,hd];rfl
   obtain ⟨fn,tmps,assign,body,hy,hR⟩:=hY j wr hlt hJ
   rw [hit] at hy
   have HJ:Hid (l.length-1-j=k∧j<l.length):=⟨hkj,hlt⟩
   clear hz hit hkj hlt hd
   gi_wp2
   refine hR.mono ?_
   rintro e W3 ⟨rfl,hJ3⟩
   gi_wp2
   go_roundw
   case rel=>exact ⟨j+1,(k:Int)-1,by go_num,by have:=HJ.out;omega,by have:=HJ.out;omega,hJ3⟩
   case measure=>simp [RowKit.intOf]
  ·obtain rfl:j=l.length:=by omega
   have hz':z=-1:=by omega
   subst hz'
   clear hz
   gi_wp2
   go_end0
   exact ⟨⟨_,rfl⟩,hJ⟩
end Go.Proofs.YtpdlohfdjiaegaaGreatDoor
