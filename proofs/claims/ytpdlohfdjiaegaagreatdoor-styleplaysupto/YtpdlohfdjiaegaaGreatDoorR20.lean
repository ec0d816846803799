import Derived.Laws.EntriesVeiled
import Derived.Test.YtpdlohfdjiaegaaGreatDoorR19
set_option linter.unusedVariables false
set_option linter.unusedSimpArgs false
set_option maxHeartbeats 4000000
set_option maxRecDepth 100000
namespace Go.Proofs.YtpdlohfdjiaegaaGreatDoor.Lw
open Go.Proofs.YtpdlohfdjiaegaaGreatDoor.Lx
open Go.RowKit Go.Shelf
variable {W w W':World}{l:List Dc}{ao:Option Addr}{cap s j:Nat}
attribute [local go_sem] Oper.semAt_some
theorem my (w:World):Aa 102 #[] w fun e w'=>e=.returned (.func (.func 153) #[] #[.pointer (some ⟨w.heap.size+1,0,none⟩),.pointer (some ⟨w.heap.size,0,none⟩)])/\w'=(w.alloc (.cells #[.int .i64 0,.int .i64 0] 216)).alloc (.cells #[.slice none 0 0] 217):=by
 have hmf:=mkfn
 go_enter Tryz.func102,Tryz.ntmps102
 go_wp2_with fail
 go_ret
 exact ⟨rfl,rfl⟩
def ni (l:List Nat):List Value:=l.map fun (x:Nat)=>Value.int .i64 (x:Int)
theorem xG (l:List Nat):(ni l).length=l.length:=by simp [ni]
def ndl (l:List Dc) (i:Nat):List Nat:=List.replicate i 0++(nds (l.drop i)).1
theorem vo (l:List Dc) (i:Nat) (hi:i<=l.length):(ndl l i).length=l.length:=by simp [ndl,gW];omega
theorem vm (l:List Dc) (i:Nat) (d:Dc) (hd:l[i]?=some d):(ndl l (i+1)).set i (cR d (nds (l.drop (i+1))).2).1=ndl l i:=by
 obtain ⟨h1,h2⟩:=zv.1 hd;unfold ndl;rw [Ad h1,h2,CT,zJ,CF _ _ (by simp)];simp [nds]
theorem yV (N:Nat) (hN:N<=100000000) (w:World):(Instr.makeSlice 109 (.int .i64 (N:Int)) (.int .i64 (N:Int))).run Tryz.prog w=.ok (.slice (some ⟨w.heap.size,0,none⟩) N N) (w.alloc (.cells (ni (List.replicate N 0)).toArray 3)):=by
 obtain ⟨i0,hi,hz0,hz1,hz2⟩:=Az Tryz.info3;have h:=run_make (P:=Tryz.prog) w 109 3 i0 (.int .i64 0) Tryz.underlying109 hi hz0 .i64 .i64 (N:Int) (N:Int) (by omega) (by omega) (by rw [hz2];omega) (by omega);rw [h]
 congr 4
 rw [hz1]
 apply Bh.1
 show (madeCells #[.int .i64 0] _).toList=_
 rw [toList_madeCells_one];simp [ni]
structure NI (w:World) (l:List Dc) (ao:Option Addr) (cap:Nat) (s j:Nat) (W:World):Prop where
 bel:Below s w W
 row:W.heap[s]?=some (.cells (ni (ndl l (l.length-j))).toArray 3 (0,0))
 box:W.heap[s+1]?=some (.cells #[.slice (some ⟨s,0,none⟩) l.length l.length] 109 (0,0))
 tl:TL (s+1+1+1+1+1+1) W (s+1+1) (s+1+1+1) (nds (l.drop (l.length-j))).2.1 (nds (l.drop (l.length-j))).2.2
 fn:W.heap[s+1+1+1+1]?=some (.cells #[.func (.func 153) #[] #[.pointer (some ⟨s+1+1+1,0,none⟩),.pointer (some ⟨s+1+1,0,none⟩)]] 157 (0,0))
 bn:W.heap[s+1+1+1+1+1]?=some (.cells #[.slice ao l.length cap] 46 (0,0))
theorem TL.own {B:Nat}{gb ga:Nat}{s:Sp}{st:List Sp}{row:Option Nat}(h:TL B W gb ga s st) (hg:W.grownBy W' row) (hrow:∀r,row=some r->∃o:Obj,W.heap[r]?=some o/\o.isCells=false):TL B W' gb ga s st:=by
 obtain ⟨v,h1,h2,h3⟩:=h.ha;refine ⟨bf hg hrow h.hb,⟨v,bf hg hrow h1,⟨h2.1,?_⟩,h3⟩⟩
 rcases h2.2 with h4|⟨g,cap,cur,rfl,a1,a2,a3⟩
 ·exact .inl h4
 ·exact .inr ⟨g,cap,cur,rfl,a1,bf hg hrow a2,a3⟩
theorem NI.own {row:Option Nat}(h:NI w l ao cap s j W) (hs:s<=w.heap.size) (hg:W.grownBy W' row) (hrow:∀r,row=some r->s<=r/\∃o:Obj,W.heap[r]?=some o/\o.isCells=false):NI w l ao cap s j W':=
 have hr:=fun r e=>(hrow r e).2
 ⟨h.bel.grown hg (zr hs h.bel.size) (fun k e=>(hrow k e).1),bf hg hr h.row,bf hg hr h.box,h.tl.own hg hr,bf hg hr h.fn,bf hg hr h.bn⟩
theorem si (w:World) (l:List Dc) (ao:Option Addr) (cap s:Nat) (hs:w.heap.size=s):NI w l ao cap s 0 ((((((w.alloc (.cells (ni (List.replicate l.length 0)).toArray 3)).alloc (.cells #[.slice (some ⟨s,0,none⟩) l.length l.length] 109)).alloc (.cells #[.int .i64 0,.int .i64 0] 216)).alloc (.cells #[.slice none 0 0] 217)).alloc (.cells #[.func (.func 153) #[] #[.pointer (some ⟨s+1+1+1,0,none⟩),.pointer (some ⟨s+1+1,0,none⟩)]] 157)).alloc (.cells #[.slice ao l.length cap] 46))/\((((((w.alloc (.cells (ni (List.replicate l.length 0)).toArray 3)).alloc (.cells #[.slice (some ⟨s,0,none⟩) l.length l.length] 109)).alloc (.cells #[.int .i64 0,.int .i64 0] 216)).alloc (.cells #[.slice none 0 0] 217)).alloc (.cells #[.func (.func 153) #[] #[.pointer (some ⟨s+1+1+1,0,none⟩),.pointer (some ⟨s+1+1,0,none⟩)]] 157)).alloc (.cells #[.slice ao l.length cap] 46)).heap.size=s+1+1+1+1+1+1:=by
 subst hs;have e0:nds (l.drop (l.length-0))=([],⟨0,0⟩,[]):=by rw [AO (by omega)];rfl
 have e1:ndl l (l.length-0)=List.replicate l.length 0:=by unfold ndl;rw [e0];simp
 refine ⟨⟨?_,?_,?_,⟨?_,.slice none 0 0,?_,?_,fun k hk=>by cases hk⟩,?_,?_⟩,?_⟩
 ·refine (((((BU ?_ ?_ _).alloc ?_ _).alloc ?_ _).alloc ?_ _).alloc ?_ _).alloc ?_ _
  ·exact gt _ _
  all_goals first|exact eq _|(simp only [ge];omega)
 ·rw [e1];exact aB (aB (aB (aB (aB (ag _ _) _) _) _) _) _
 ·have:=ag (w.alloc (.cells (ni (List.replicate l.length 0)).toArray 3)) (.cells #[.slice (some ⟨w.heap.size,0,none⟩) l.length l.length] 109);rw [ge] at this;exact aB (aB (aB (aB this _) _) _) _
 ·rw [e0];have:=ag ((w.alloc (.cells (ni (List.replicate l.length 0)).toArray 3)).alloc (.cells #[.slice (some ⟨w.heap.size,0,none⟩) l.length l.length] 109)) (.cells #[.int .i64 0,.int .i64 0] 216);rw [ge,ge] at this;exact aB (aB (aB this _) _) _
 ·have:=ag (((w.alloc (.cells (ni (List.replicate l.length 0)).toArray 3)).alloc (.cells #[.slice (some ⟨w.heap.size,0,none⟩) l.length l.length] 109)).alloc (.cells #[.int .i64 0,.int .i64 0] 216)) (.cells #[.slice none 0 0] 217);rw [ge,ge,ge] at this;exact aB (aB this _) _
 ·rw [e0];exact Ar _ _ _ _
 ·have:=ag ((((w.alloc (.cells (ni (List.replicate l.length 0)).toArray 3)).alloc (.cells #[.slice (some ⟨w.heap.size,0,none⟩) l.length l.length] 109)).alloc (.cells #[.int .i64 0,.int .i64 0] 216)).alloc (.cells #[.slice none 0 0] 217)) (.cells #[.func (.func 153) #[] #[.pointer (some ⟨w.heap.size+1+1+1,0,none⟩),.pointer (some ⟨w.heap.size+1+1,0,none⟩)]] 157);rw [ge,ge,ge,ge] at this;exact aB this _
 ·have:=ag (((((w.alloc (.cells (ni (List.replicate l.length 0)).toArray 3)).alloc (.cells #[.slice (some ⟨w.heap.size,0,none⟩) l.length l.length] 109)).alloc (.cells #[.int .i64 0,.int .i64 0] 216)).alloc (.cells #[.slice none 0 0] 217)).alloc (.cells #[.func (.func 153) #[] #[.pointer (some ⟨w.heap.size+1+1+1,0,none⟩),.pointer (some ⟨w.heap.size+1+1,0,none⟩)]] 157)) (.cells #[.slice ao l.length cap] 46);rw [ge,ge,ge,ge,ge] at this;exact this
 ·simp only [ge]
theorem lN:∀(l:List Dc) (o:Int) (j:Nat),0<=o->frm o j l=none->∀i,∃o',0<=o'/\frm o' (j+i) (l.drop i)=none
 |l,o,j,ho,h,0=>⟨o,ho,by simpa using h⟩
 |[],o,j,ho,h,i+1=>⟨0,DF _,by simp [frm]⟩
 |d :: r,o,j,ho,h,i+1=>by
  simp only [frm] at h
  split at h
  ·rename_i hc
   obtain ⟨o',h1,h2⟩:=lN r _ _ hc.2 h i;refine ⟨o',h1,?_⟩;rw [show j+(i+1)=j+1+i by omega];exact h2
  ·cases h
theorem ol:∀l,(nds l).2.2.length<=l.length
 |[]=>by simp [nds]
 |d :: r=>by
  have:=ol r;show (cR d (nds r).2).2.2.length<=r.length+1;unfold cR
  repeat' split
  all_goals simp
  all_goals omega
theorem mW {w':World}(h:Below w.heap.size w w'):w.grownBy w' none:=⟨h.os,h.tape,h.output,h.size,fun k hk _=>h.block k hk⟩
theorem NI.below (h:NI w l ao cap s j W) (hs:s<=w.heap.size) (hb:Below W.heap.size W W'):NI w l ao cap s j W':=h.own hs (mW hb) (fun r e=>by cases e)
theorem xF (l:List Nat) (i x:Nat):(ni l).toArray.setIfInBounds i (.int .i64 x)=(ni (l.set i x)).toArray:=by
 simp [ni,List.map_set]
theorem NI.next {w1:World}{i:Nat}{d:Dc}(h:NI w l ao cap s j W) (hd:l[i]?=some d) (hj:l.length-j=i+1) (hj2:l.length-(j+1)=i)
  (h1:TL (s+1+1+1+1+1+1) w1 (s+1+1) (s+1+1+1) (cR d (nds (l.drop (i+1))).2).2.1 (cR d (nds (l.drop (i+1))).2).2.2) (h2:Bo (s+1+1+1+1+1+1) (s+1+1) (s+1+1+1) W w1) :
  NI w l ao cap s (j+1) (w1.setCell ⟨s,i,none⟩ (.int .i64 (cR d (nds (l.drop (i+1))).2).1)):=by
 have hk:=h2.1
 have hn:∀k,k<s+1+1\/k=s+1+1+1+1\/k=s+1+1+1+1+1->¬Sx (s+1+1+1+1+1+1) (s+1+1) (s+1+1+1) k:=by
  intro k hk hS;unfold Sx at hS;omega
 have e:nds (l.drop i)=((cR d (nds (l.drop (i+1))).2).1 :: (nds (l.drop (i+1))).1,(cR d (nds (l.drop (i+1))).2).2):=by
  obtain ⟨a1,a2⟩:=zv.1 hd;rw [Ad a1,a2];rfl
 have ks:=Kp.set w1 s i (.int .i64 ((cR d (nds (l.drop (i+1))).2).1:Nat));have r0:=hk.blk h.row (hn s (by omega));obtain ⟨v,t1,t2,t3⟩:=h1.ha;refine ⟨?_,?_,?_,⟨?_,v,?_,?_,t3⟩,?_,?_⟩
 ·exact Bm ⟨hk.os.trans h.bel.os,hk.tape.trans h.bel.tape,hk.output.trans h.bel.output,zr h.bel.size hk.size,fun k h1=>(hk.block k (by have:=ah h.row;omega) (hn k (by omega))).trans (h.bel.block k h1)⟩ (p:=⟨s,i,none⟩) (eq _) _
 ·rw [hj2,<-vm l i d hd,<-xF,<-hj];exact af r0 i _
 ·exact aS (hk.blk h.box (hn _ (by omega))) (by omega) _
 ·rw [hj2,e];exact aS h1.hb (by omega) _
 ·exact aS t1 (by omega) _
 ·rw [hj2,e];exact ks.row t2 (fun k e1 e2=>by have:=(t3 k e1).1;omega)
 ·exact aS (hk.blk h.fn (hn _ (by omega))) (by omega) _
 ·exact aS (hk.blk h.bn (hn _ (by omega))) (by omega) _
theorem pO (ao:Option Addr) (l:List Dc) (cap:Nat) (w:World) (hL:Lay w ao l) (hT:Tab w) (hn:l.length<=100000000) (hf:frm 0 0 l=none) :
  Aa 58 #[.slice ao l.length cap] w fun e w'=>e=.returned (.slice (some ⟨w.heap.size,0,none⟩) l.length l.length)/\w'.heap[w.heap.size]?=some (.cells (ni (nds l).1).toArray 3 (0,0))/\Below w.heap.size w w':=by
 refine (A9 (n:=9)).1 ?_;refine callsIn_of_wp_marks Tryz.func58 rfl trivial ?_ rfl;simp only [Tryz.ntmps58,Bv,List.length_cons,Ao,Nat.reduceAdd,Nat.reduceSub,A6,A7,By,Bb,Ay,AI];have hmk:=yV l.length hn
 gi_wp2
 refine ⟨trivial,?_⟩;refine (A9.2 (my _)).mono ?_;rintro e w1 ⟨rfl,rfl⟩
 gi_wp2
 refine ⟨trivial,?_⟩;refine (A9.2 (ef _ _ _ _)).mono ?_;rintro e w1 ⟨rfl,rfl⟩
 gi_wp2
 obtain ⟨s,hs⟩:∃s,w.heap.size=s:=⟨_,rfl⟩;rw [hs];obtain ⟨W0,hW0⟩:∃W0,(((((w.alloc (.cells (ni (List.replicate l.length 0)).toArray 3)).alloc (.cells #[.slice (some ⟨s,0,none⟩) l.length l.length] 109)).alloc (.cells #[.int .i64 0,.int .i64 0] 216)).alloc (.cells #[.slice none 0 0] 217)).alloc (.cells #[.func (.func 153) #[] #[.pointer (some ⟨s+1+1+1,0,none⟩),.pointer (some ⟨s+1+1,0,none⟩)]] 157)).alloc (.cells #[.slice ao l.length cap] 46)=W0:=⟨_,rfl⟩
 have h0:NI w l ao cap s 0 W0/\W0.heap.size=s+1+1+1+1+1+1:=by
  rw [<-hW0];exact si w l ao cap s hs
 rw [hW0];clear hW0;have hsz:=h0.2
 refine fW rfl (by omega) (gf:=156) (lb:=#[.pointer (some ⟨s+1+1+1+1+1,0,none⟩)]) rfl trivial (enters_of Tryz.func156 (by kernel_rfl) rfl) (dG 8 (by omega) (s+1+1+1+1+1) ao l cap (by omega)) (fun j=>rfl) (fun j W=>NI w l ao cap s j W)
  (fun j A B row h hg hr=>h.own (by omega) hg (fun r e=>⟨by have:=(hr r e).1;omega,(hr r e).2⟩)) (fun j W h=>⟨aa h.bn rfl,hL.below (by rw [hs];exact h.bel)⟩) h0.1
  (fun j a' W=>∃Bx,W.heap[Bx]?=some (.cells (l.getD (l.length-1-j) zD).cs.toArray 57 (0,0))/\a'={ tmps:=#[.slice ao l.length cap,undef,.slice none 0 0,.pointer (some ⟨s+1,0,none⟩),.pointer (some ⟨s+1+1+1+1,0,none⟩),.int .i64 ((l.length-1-j:Nat):Int),.pointer (some ⟨Bx,0,none⟩),.slice ao l.length cap,.int .i64 (l.length:Int),.slice (some ⟨s,0,none⟩) l.length l.length,.func (.func 153) #[] #[.pointer (some ⟨s+1+1+1,0,none⟩),.pointer (some ⟨s+1+1,0,none⟩)],.slice ao l.length cap,.func (.func 156) #[] #[.pointer (some ⟨s+1+1+1+1+1,0,none⟩)],.int .i64 ((l.length-1-j:Nat):Int),(l.getD (l.length-1-j) zD).v,undef,undef,undef,undef,undef,undef,undef],defers:=[] })
  (fun j a' u A B row h hg hr=>by obtain ⟨Bx,h1,h2⟩:=h;exact ⟨Bx,bf hg (fun r e=>(hr r e).2) h1,h2⟩) ?assign ?body ?done
 case assign=>
  intro lp j W K hj hi hK
  dsimp only [itB,Dc.v]
  gi_wp2
  exact hK _ _ ((KeepsOthers.alloc _ _).from _) (hi.below (by omega) ((gt _ _).alloc (eq _) _)) ⟨W.heap.size,ag _ _,rfl⟩
 case body=>
  rintro lp j a' W hj hi ⟨Bx,hBx,rfl⟩;obtain ⟨i,hie⟩:∃i,l.length-1-j=i:=⟨_,rfl⟩;have hil:i<l.length:=by omega
  obtain ⟨d,hd⟩:∃d,l[i]?=some d:=⟨_,hH hil⟩;have hdd:l.getD i zD=d:=by rw [AY,hd];rfl
  rw [hie,hdd] at hBx ⊢;have hj1:l.length-j=i+1:=by omega
  have hj2:l.length-(j+1)=i:=by omega
  have hrd:rt d=true:=m9 l 0 0 hf d (Ah hd);have hi2:=hi.below (by omega) (gt _ W).drew;have htl:=hi2.tl;rw [hj1] at htl;obtain ⟨b1,b2,b3⟩:=mS (l.drop (i+1))
  have h6:d.k=6->(nds (l.drop (i+1))).2.2≠[]:=by
   intro hk;obtain ⟨o,ho,hfo⟩:=lN l 0 0 (DF _) hf i;obtain ⟨a1,a2⟩:=zv.1 hd;rw [Ad a1,a2] at hfo;simp only [frm] at hfo
   split at hfo
   ·rename_i hc
    have:=lu _ _ _ hc.2 hfo;intro hnil;rw [hnil,hk] at this;have e6:dep 6=1:=rfl;rw [e6] at this;simp at this;omega
   ·cases hfo
  have hsW:=ah hi.bn
  have HTELL:Hid (Aa 153 #[.agg #[.int .u8 d.k,.string d.t,.int .i64 d.b,.int .i64 d.i,.bool d.e],.pointer (some ⟨s+1+1+1,0,none⟩),.pointer (some ⟨s+1+1,0,none⟩)] W.drew fun e w'=>TA (s+1+1+1+1+1+1) W.drew (s+1+1) (s+1+1+1) (cR d (nds (l.drop (i+1))).2) e w'):=
   bH htl b2 b3 (by show _<=W.heap.size;omega) (fun W' hW'=>hT.below ⟨hW'.os.trans hi2.bel.os,hW'.tape.trans hi2.bel.tape,hW'.output.trans hi2.bel.output,zr hi2.bel.size hW'.size,fun k h1=>(hW'.block k (zz h1 hi2.bel.size) (fun hS=>by unfold Sx at hS;omega)).trans (hi2.bel.block k (by omega))⟩) (by have:=ol (l.drop (i+1));simp at this;omega) d hrd h6
  have HN:Hid (∀w1,TL (s+1+1+1+1+1+1) w1 (s+1+1) (s+1+1+1) (cR d (nds (l.drop (i+1))).2).2.1 (cR d (nds (l.drop (i+1))).2).2.2->Bo (s+1+1+1+1+1+1) (s+1+1) (s+1+1+1) W.drew w1->NI w l ao cap s (j+1) (w1.setCell ⟨s,i,none⟩ (.int .i64 (cR d (nds (l.drop (i+1))).2).1))/\∀B,KeepsFrom B W (w1.setCell ⟨s,i,none⟩ (.int .i64 (cR d (nds (l.drop (i+1))).2).1))):=
   fun w1 t1 t2=>⟨hi2.next hd hj1 hj2 t1 t2,fun B=>(((KeepsOthers.drew _).trans t2.2).trans (KeepsOthers.setCell _ _ _)).from B⟩
  have hrw:=hi.row;rw [hj1] at hrw;obtain ⟨zc,hzc⟩:∃v,(ni (ndl l (i+1))).toArray[i]?=some v:=⟨_,zY (by simp [xG,vo l (i+1) (by omega)];omega)⟩
  have HR:Hid (∀w1,Bo (s+1+1+1+1+1+1) (s+1+1) (s+1+1+1) W.drew w1->w1.cell? ⟨s,i,none⟩=some zc/\w1.frozen? ⟨s,i,none⟩=false/\w1.cell? ⟨s+1,0,none⟩=some (.slice (some ⟨s,0,none⟩) l.length l.length)):=by
   intro w1 t2;have r1:w1.heap[s]?=_:=t2.1.blk (w:=W.drew) hrw (fun hS=>by unfold Sx at hS;omega);have r2:w1.heap[s+1]?=_:=t2.1.blk (w:=W.drew) hi.box (fun hS=>by unfold Sx at hS;omega);exact ⟨aa r1 hzc,aj r1,aa r2 rfl⟩
  have c1:=aa (k:=0) hi.box rfl;have c2:=aa (k:=0) hi.fn rfl;have x0:W.cell? ⟨Bx,0,none⟩=some (.int .u8 d.k):=aa hBx rfl;have x1:W.cell? ⟨Bx,1,none⟩=some (.string d.t):=aa hBx rfl;have x2:W.cell? ⟨Bx,2,none⟩=some (.int .i64 d.b):=aa hBx rfl;have x3:W.cell? ⟨Bx,3,none⟩=some (.int .i64 d.i):=aa hBx rfl;have x4:W.cell? ⟨Bx,4,none⟩=some (.bool d.e):=aa hBx rfl;have q1:(i:Int)<l.length:=by omega
  have q2:(0:Int)<=i:=by omega
  have q3:i<l.length:=hil;clear htl b1 b2 b3 h6 hrw hzc hi2 hi hBx hdd hd hie hrd hj1 hj2 hj
  dsimp only [Dc.v]
  generalize (cR d (nds (l.drop (i+1))).2)=T at *
  have hmx:Tryz.prog.follows .mixedOrders=true:=by kernel_rfl
  gi_wp2
  gi_region_with_o (refine ⟨trivial,?_⟩;gi_at_call 153;refine (CallsIn.inRound lp (A9.2 HTELL.out)).mono ?_;rintro e w1 ⟨rfl,t1,t2⟩;obtain ⟨y1,y2,y3⟩:=HR.out _ t2)
  all_goals gi_wp2
  all_goals (try go_bits)
  all_goals exact ⟨(HN.out _ t1 t2).2 _,(HN.out _ t1 t2).1⟩
 case done=>
  intro D W hD hi hK;have hrow:=hi.row;rw [show l.length-l.length=0 by omega] at hrow;have e0:ndl l 0=(nds l).1:=by simp [ndl]
  rw [e0] at hrow;have c1:=aa (k:=0) hi.box rfl
  gi_wp2
  have hKD:D≠s:=by omega
  refine ⟨by simp,.inl ⟨_,_,rfl,run_takeDeferred hK,?_⟩⟩;refine ⟨.slice (some ⟨s,0,none⟩) l.length l.length,by simp [results,Tryz.f58,go_sem],by rw [hs],?_,?_⟩
  ·rw [hs];exact (World.putObj_heap_other hKD.symm).trans hrow
  ·rw [hs];exact hi.bel.trans (belowK_b (w:=w) (by omega) W D _ _ (by omega) hK rfl rfl)
end Go.Proofs.YtpdlohfdjiaegaaGreatDoor.Lw
namespace Go.Proofs.YtpdlohfdjiaegaaGreatDoor.Lw
open Go.Proofs.YtpdlohfdjiaegaaGreatDoor.Lx
open Go.RowKit
def bg0:Dc:=⟨6,bE,0,0,false⟩
theorem wm (d:Dc):decide ((chk [bg0,d]).2≠1)=rt d:=by
 have h0:rt bg0=true:=by decide +kernel
 have hd:0<=1+dep d.k:=by unfold dep;split;omega;split <;> omega
 have e2:frm 0 0 [bg0,d]=if rt d=true/\0<=1+dep d.k then frm (1+dep d.k) 2 [] else some 1:=by
  have:frm 0 0 [bg0,d]=if rt bg0=true/\0<=0+dep bg0.k then frm (0+dep bg0.k) 1 [d] else some 0:=rfl
  rw [this,zw ⟨h0,by decide⟩];rfl
 have key:(chk [bg0,d]).2=1↔rt d=false:=by
  rw [show chk [bg0,d]=ckr (frm 0 0 [bg0,d]) from tU (by simp),e2];cases hr:rt d with
  |false=>rw [zu (by simp)];simp [ckr]
  |true=>
   rw [zw ⟨rfl,hd⟩];have:frm (1+dep d.k) 2 []=if 0<1+dep d.k then some 2 else none:=rfl
   rw [this]
   by_cases h:0<1+dep d.k
   ·rw [zw h];simp [ckr]
   ·rw [zu h];simp [ckr]
 cases hr:rt d with
 |false=>exact zA (fun h=>h (key.2 hr))
 |true=>exact zB (fun h=>by rw [key.1 h] at hr;cases hr)
theorem vD (w:World) (b:Nat) (d:Dc) (ht:d.t.size<=9223372036854775807) (h:w.heap[b]?=some (.cells #[.int .u8 6,.string ⟨#[]⟩,.int .i64 0,.int .i64 0,.bool false,.int .u8 d.k,.string d.t,.int .i64 d.b,.int .i64 d.i,.bool d.e] 57 (0,0))):Lay w (some ⟨b,0,none⟩) [bg0,d]:=by
 intro j x hx
 match j,hx with
 |0,hx=>cases hx;exact ⟨zx _,b,0,rfl,aa h rfl,aa h rfl,aa h rfl,aa h rfl,aa h rfl⟩
 |1,hx=>cases hx;exact ⟨ht,b,0,rfl,aa h rfl,aa h rfl,aa h rfl,aa h rfl,aa h rfl⟩
 |j+2,hx=>simp at hx
theorem mo (d:Dc) (ht:d.t.size<=9223372036854775807) (w:World):Aa 101 #[d.v] w fun e w'=>e=.returned (.bool (rt d))/\Below w.heap.size w w':=by
 have HC:Hid (∀W b,W.heap[b]?=some (.cells #[.int .u8 6,.string ⟨#[]⟩,.int .i64 0,.int .i64 0,.bool false,.int .u8 d.k,.string d.t,.int .i64 d.b,.int .i64 d.i,.bool d.e] 57 (0,0))->Aa 152 #[.slice (some ⟨b,0,none⟩) 2 2] W fun e w'=>e=.returned (.tuple #[.int .i64 (chk [bg0,d]).1,.int .i64 (chk [bg0,d]).2])/\Below W.heap.size W w'):=fun W b h=>qG _ [bg0,d] 2 W (vD W b d ht h) (by simp)
 have e:=wm d;rw [<-e];have hb:=ye [bg0,d]
 generalize (chk [bg0,d]).1=k1 at *
 generalize (chk [bg0,d]).2=k2 at *
 clear e ht;obtain ⟨dk,dt,db,di,de⟩:=d
 dsimp only [Dc.v] at *
 have hs1:(w.alloc (.cells #[.int .u8 dk,.string dt,.int .i64 db,.int .i64 di,.bool de] 57)).heap.size=w.heap.size+1:=ge _ _;have hbd:∀o1 o2 w1,Below ((w.alloc o1).alloc o2).heap.size ((w.alloc o1).alloc o2) w1->Below w.heap.size w w1:=fun o1 o2 w1 h=>(((gt _ w).alloc (eq _) o1).alloc (by rw [ge];omega) o2).trans (h.mono (by rw [ge,ge];omega))
 have HB:Hid (∀o1 o2 w1,Below ((w.alloc o1).alloc o2).heap.size ((w.alloc o1).alloc o2) w1->Below w.heap.size w w1):=hbd;clear hbd
 go_enter Tryz.func101,Tryz.ntmps101
 go_wp2_with (go_at_call 152;refine (HC.out _ _ (by rw [<-hs1];exact ag _ _)).mono ?_;rintro e w1 ⟨rfl,hb1⟩)
 go_ret
 exact ⟨by simp [bne,Bool.beq_eq_decide_eq],HB.out _ _ _ hb1⟩
theorem jA (ao:Option Addr) (l:List Dc) (cap:Nat) (w:World) (hL:Lay w ao l) (hn:l.length<=9223372036854775807) :
  Aa 57 #[.slice ao l.length cap] w fun e w'=>e=.returned (.bool (decide (frm 0 0 l=none)))/\Below w.heap.size w w':=by
 obtain ⟨R,hR⟩:∃R,frm 0 0 l=R:=⟨_,rfl⟩;have HR0:Hid (frm 0 0 l=R):=hR;rw [hR];clear hR;have HL:Hid (Lay w ao l):=hL;clear hL
 go_enter Tryz.func57,Tryz.ntmps57
 go_wp2_with fail
 go_loopw [3,8] (fun o j wr=>∃(k:Nat) (z:Int),k<=l.length/\o=.int .i64 z/\j=.int .i64 k/\0<=z/\z<=k/\Hid (frm z k (l.drop k)=R/\Below w.heap.size w wr)) (fun _ j _=>l.length-(intOf j).toNat)
 case atStart=>exact ⟨0,0,by omega,rfl,rfl,by omega,by omega,HR0.out,gt _ _⟩
 case round=>
  obtain ⟨k,z,hk,rfl,rfl,hz0,hz1,HI⟩:=hrel
  by_cases hlt:k<l.length
  ·have q1:(k:Int)<l.length:=by omega
   obtain ⟨d,hd⟩:∃d,l[k]?=some d:=⟨_,hH hlt⟩;obtain ⟨ht,b,off,rfl,c0,c1,c2,c3,c4⟩:=(HL.out.below HI.out.2) k d hd
   have HS:Hid ((if rt d=true/\0<=z+dep d.k then frm (z+dep d.k) (k+1) (l.drop (k+1)) else some k)=R):=by
    show _=_;rw [<-fK hd];exact HI.out.1
   have HB:Hid (Ab w wr):=HI.out.2;have HR:Hid (∀W,Aa 101 #[d.v] W fun x w'=>x=.returned (.bool (rt d))/\Ab W w'):=fun W=>mo d ht W
   clear HI hd;obtain ⟨dk,dt,db,di,de⟩:=d;simp only [Dc.v] at HR;simp only at c0 c1 c2 c3 c4 HS ht
   generalize rt ⟨dk,dt,db,di,de⟩=r at *
   have HX:Hid (r=true->0<=z+dep dk->frm (z+dep dk) (k+1) (l.drop (k+1))=R):=fun h1 h2=>by rw [<-HS.out,zw ⟨h1,h2⟩]
   have HY:Hid (¬(r=true/\0<=z+dep dk)->decide (R=none)=false):=fun h=>by rw [<-HS.out,zu h];rfl
   clear HS
   have HA:Hid (∀W w1,W=wr.alloc (.cells #[.int .u8 dk,.string dt,.int .i64 db,.int .i64 di,.bool de] 57)->Ab W w1->Ab w w1):=fun W w1 hW h=>by
    subst hW;exact (HB.out.alloc HB.out.size _).trans (h.mono (by rw [ge];have:=HB.out.size;omega))
   by_cases k6:dk=6
   ·subst k6;have e6:z+dep 6=z+1:=rfl;rw [e6] at HX HY;cases r
    ·have HQ:Hid (decide (R=none)=false):=HY.out (by simp);clear HX HY
     go_wp2_with (go_at_call 101;refine (HR.out _).mono ?_;rintro e w1 ⟨rfl,hb1⟩)
     all_goals (go_ret;rw [HQ.out];exact ⟨rfl,HA.out _ _ rfl hb1⟩)
    ·have HQ:Hid (frm (z+1) (k+1) (l.drop (k+1))=R):=HX.out rfl (by omega);clear HX HY
     go_wp2_with (go_at_call 101;refine (HR.out _).mono ?_;rintro e w1 ⟨rfl,hb1⟩)
     exact ⟨⟨k+1,z+1,hlt,by go_num,by go_num,by omega,by omega,HQ.out,HA.out _ _ rfl hb1⟩,by simp [intOf];omega⟩
   by_cases k7:dk=7
   ·subst k7;have e6:z+dep 7=z-1:=rfl;rw [e6] at HX HY
    by_cases hz:0<z
    ·cases r
     ·have HQ:Hid (decide (R=none)=false):=HY.out (by simp);clear HX HY
      go_wp2_with (go_at_call 101;refine (HR.out _).mono ?_;rintro e w1 ⟨rfl,hb1⟩)
      all_goals (go_ret;rw [HQ.out];exact ⟨rfl,HA.out _ _ rfl hb1⟩)
     ·have HQ:Hid (frm (z-1) (k+1) (l.drop (k+1))=R):=HX.out rfl (by omega);clear HX HY
      go_wp2_with (go_at_call 101;refine (HR.out _).mono ?_;rintro e w1 ⟨rfl,hb1⟩)
      exact ⟨⟨k+1,z-1,hlt,by go_num,by go_num,by omega,by omega,HQ.out,HA.out _ _ rfl hb1⟩,by simp [intOf];omega⟩
    ·obtain rfl:z=0:=by omega
     have HQ:Hid (decide (R=none)=false):=HY.out (by omega);clear HX HY
     go_wp2_with (go_at_call 101;refine (HR.out _).mono ?_;rintro e w1 ⟨rfl,hb1⟩)
     all_goals (go_ret;rw [HQ.out];exact ⟨rfl,HA.out _ _ rfl (gt _ _)⟩)
   ·have e6:z+dep dk=z:=by simp [dep,k6,k7]
    rw [e6] at HX HY;cases r
    ·have HQ:Hid (decide (R=none)=false):=HY.out (by simp);clear HX HY
     go_wp2_with (go_at_call 101;refine (HR.out _).mono ?_;rintro e w1 ⟨rfl,hb1⟩)
     all_goals (go_ret;rw [HQ.out];exact ⟨rfl,HA.out _ _ rfl hb1⟩)
    ·have HQ:Hid (frm z (k+1) (l.drop (k+1))=R):=HX.out rfl (by omega);clear HX HY
     go_wp2_with (go_at_call 101;refine (HR.out _).mono ?_;rintro e w1 ⟨rfl,hb1⟩)
     exact ⟨⟨k+1,z,hlt,by go_num,by go_num,by omega,by omega,HQ.out,HA.out _ _ rfl hb1⟩,by simp [intOf];omega⟩
  ·obtain rfl:k=l.length:=by omega
   have q1:¬((l.length:Int)<l.length):=by omega
   have he:=HI.out.1;rw [oA (eq _)] at he;have HB:Hid (Ab w wr):=HI.out.2
   have HQ:Hid (decide (R=none)=(z == 0)):=by
    show _=_
    rw [<-he]
    by_cases hz:0<z
    ·rw [zw hz];have:¬z=0:=by omega
     simp [this]
    ·obtain rfl:z=0:=by omega
     rfl
   clear HI he
   go_wp2_with fail
   go_ret
   rw [HQ.out];exact ⟨rfl,HB.out⟩
end Go.Proofs.YtpdlohfdjiaegaaGreatDoor.Lw
