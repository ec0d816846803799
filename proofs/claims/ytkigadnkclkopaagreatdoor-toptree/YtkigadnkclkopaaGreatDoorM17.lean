import Derived.Deep.Cut
import Derived.Deep.CutRange
import Derived.Test.YtkigadnkclkopaaGreatDoorM16
set_option linter.unusedVariables false
set_option linter.unusedSimpArgs false
namespace Go.Proofs.YtkigadnkclkopaaGreatDoor.Lx
open Go.RowKit
theorem Rq.told {w0 W:World}{g:Nat}{s:ByteArray}{a:Nat}{p n:Int}{b f:Nat}{v v':Value}{l:List Tv}(h1:Below w0.heap.size w0 W) (h2:w0.heap.size≤g) (h3:RB W g s a p n b f v) (h4:Rt w0.heap.size W v' l) :
  Rq w0 ((W.setCell ⟨g,8,none⟩ v').setCell ⟨g,7,none⟩ (.int .i64 0)) g s a p n b 0 l:=by
 have hne:=h4.ne h3 (by decide)
 refine ⟨(h1.setCell (p:=⟨g,8,none⟩) h2 _).setCell (p:=⟨g,7,none⟩) h2 _,h2,v',?_,?_⟩
 ·exact blk_set (blk_set h3 8 _) 7 _
 ·exact (h4.kp (Kp.set _ g 8 _) hne).kp (Kp.set _ g 7 _) hne
theorem new_at (w:World) (o:Obj):(w.alloc o).heap[w.heap.size]?=some o:=World.alloc_heap_new w o
theorem step_tok {W:World}{ops:Array Oper}{o:Oper}{a:Act}{K:Act→World→Prop}{Q:Exit→Act→World→Prop}{E:Prop}(hgd:o.guard=none) (s x:Operand)
  (ho:o.op=.call { callee:=.builtin .append,args:=#[s,x],argTypes:=#[24,24] }) (B:Nat) (v:Value) (l:List Tv) (d:Tv) (hs:a.eval s=v) (hr:Rt B W v l)
  (g c:Nat) (hx:a.eval x=.slice (some ⟨g,0,none⟩) 1 c) (hg:W.heap[g]?=some (.cells #[.int .u8 d.k,.string d.t,.int .i64 d.a,.int .i64 d.l,.int .i64 d.c,.int .i64 d.f] 42 (0,0))) (hl:l.length≤1000000000) (hB:B≤W.heap.size)
  (h:∀q cap w',Rt B w' (.slice (some ⟨q,0,none⟩) (l.length+1) cap) (l++[d])→Below B W w'→W.grownBy w' v.ownBlock→K (a.put o.dst (.slice (some ⟨q,0,none⟩) (l.length+1) cap)) w') :
  if Region.wanted o (yielded ops a.tmps)=true then Oper.wp Tryz.prog o a W K Q else E:=by
 obtain ⟨i0,hi,hz0,hz1,hz2⟩:=info_parts Tryz.info42
 refine step_append_lies W hgd s x 24 ho B 42 i0 _ 6 56 Tryz.underlying24 hi hz0 hz1 hz2 rfl (by decide) v _ _ hs hr ⟨g,0,none⟩ 1 c (tcs [d]) hx (by rw [tcs_len];rfl) ?_ (tcs_one [d]) (by omega) (by unfold maxLen;omega) (by omega) hB _ rfl ?_
 ·intro j u hu
  refine World.news_of_block hg j u ?_
  have e:tcs [d]=[.int .u8 d.k,.string d.t,.int .i64 d.a,.int .i64 d.l,.int .i64 d.c,.int .i64 d.f]:=by simp [tcs,flat,Tv.cs]
  rw [e] at hu
  simpa using hu
 ·intro q cap w' a1 a2 a3 _
  refine h q cap w' ?_ ((Below.refl B W).grown a2 hB hr.own) a2
  unfold Rt
  rw [List.length_append,tcs_app]
  exact a1
set_option maxRecDepth 100000 in
set_option maxHeartbeats 4000000 in
theorem tell_core {w0 W:World}{g:Nat}{s:ByteArray}{a:Nat}{p n:Int}{b f:Nat}{l:List Tv}(h:Rq w0 W g s a p n b f l) (k:Nat) (T:ByteArray) (hT:(if k=7 then s.extract b (tkTrim s a) else s.extract b a)=T) (h7:k=7→b<a∧tkBl (by8 s b)=false) (hs:s.size≤2147483647) (hba:b≤a) (ha:a≤s.size) (hl:l.length≤1000000000) :
  Calls Tryz.prog 87 #[.pointer (some ⟨g,0,none⟩),.int .u8 k] W fun e w'=>e=.returned (.int .i64 0)∧Rq w0 w' g s a p n b 0 (l++[⟨k,T,b,pL s b,pC s b,f⟩]):=by
 obtain ⟨h1,h2,v,h3,h4⟩:=h
 have hTz:T.size≤2147483647:=by
  rw [←hT]
  have:=tkTrim_le s a
  split
  ·rw [size_ext s b _ (by omega)];omega
  ·rw [size_ext s b a ha];omega
 obtain ⟨U,hU⟩:∃U,s.extract b a=U:=⟨_,rfl⟩
 have HTr:Hid (k=7→∀V,Calls Tryz.prog 101 #[.string U,.string ⟨#[32,9,13]⟩] V fun e w'=>e=.returned (.string T)∧Below V.heap.size V w'):=fun hk V=>by
  have h8:=trim_any U V (by rw [←hU,size_ext s b a ha];omega)
  rw [if_pos hk] at hT
  rw [←hU,trim_is s b a (h7 hk).1 ha (h7 hk).2,hT] at h8
  rw [←hU]
  exact h8
 have HTn:Hid (k≠7→U=T):=fun hk=>by rw [if_neg hk] at hT;rw [←hU];exact hT
 have HB:Hid (Calls Tryz.prog 95 #[.pointer (some ⟨g,0,none⟩)] W fun e w'=>e=.returned (.string U)∧∃m,w'=W.drewN m):=by rw [←hU];exact bytes_any h3 hs hba ha
 have HC:Hid (∀V,Calls Tryz.prog 100 #[.string T] V fun e w'=>e=.returned (.string T)∧Below V.heap.size V w'):=fun V=>clone_any T V hTz
 have HK:Hid (∀V,Below W.heap.size W V→Below w0.heap.size w0 V∧RB V g s a p n b f v∧Rt w0.heap.size V v l):=fun V hb=>⟨h1.trans (hb.mono h1.size),blk_below h3 hb,h4.below hb⟩
 obtain ⟨vp,vc,rfl,hv1,hv2⟩:=h4.shape
 clear h1 h3 h4 hT h7 hU
 go_enter Tryz.func87,Tryz.ntmps87
 go_upto_if 9 with (first|(go_at_call 95;refine HB.out.mono ?_;rintro e w1 ⟨rfl,m,hw⟩;have hb0:=bel_dn W m;rw [←hw] at hb0;clear hw))
 go_cut [5] from 9 (fun t wx=>t=.string T∧Hid (Below W.heap.size W wx))
 case first=>
  by_cases hk:k=7
  ·have q1:((k:Int) == 7)=true:=by simp;omega
   have HKk:Hid (k=7):=hk
   clear hk
   go_wp2_with (first|(go_at_call 101;refine (HTr.out HKk.out _).mono ?_;rintro e w2 ⟨rfl,hb2⟩))
   go_meet
   exact ⟨rfl,hb0.trans (hb2.mono hb0.size)⟩
  ·have q1:((k:Int) == 7)=false:=by simp;omega
   have HKk:Hid (k≠7):=hk
   clear hk
   go_wp2_with fail
   go_meet
   exact ⟨by rw [HTn.out HKk.out],hb0⟩
 case rest=>
  obtain ⟨rfl,HW⟩:=hcut
  have hb0:=HW.out
  go_wp2_with fail
  have HK1:Hid (∀V,Below wc.heap.size wc V→Below w0.heap.size w0 V∧RB V g s a p n b f (.slice vp l.length vc)∧Rt w0.heap.size V (.slice vp l.length vc) l):=fun V hb=>HK.out V (hb0.trans (hb.mono hb0.size))
  obtain ⟨_,k3,_⟩:=HK1.out _ (Below.refl _ _)
  obtain ⟨c0,c1,c2,c3,c4,c5,c6,c7,c8⟩:=Rq.cells k3
  have hlt:=blk_lt k3
  clear HK HB hb0 k3 c0 c1 c2 c3
  have HA:Hid (∀V q cap w',Below wc.heap.size wc V→Rt w0.heap.size w' (.slice (some ⟨q,0,none⟩) (l.length+1) cap) (l++[⟨k,T,b,pL s b,pC s b,f⟩])→Below w0.heap.size V w'→V.grownBy w' (Value.slice vp l.length vc).ownBlock→RB w' g s a p n b f (.slice vp l.length vc)∧Below w0.heap.size w0 w'):=fun V q cap w' hV hr hb hg=>by
   obtain ⟨x1,x3,x4⟩:=HK1.out _ hV
   exact ⟨(Kp.of_grown hg).blk x3 (fun e=>x4.ne x3 (by decide) _ e.symm rfl),x1.trans hb⟩
  go_region_law (first|(go_simp;go_at_call 100;refine (HC.out _).mono ?_;rintro e w2 ⟨rfl,hb2⟩;have hbW:Below wc.heap.size wc w2:=(Below.refl wc.heap.size wc).drew.trans (hb2.mono (Nat.le_refl _));obtain ⟨y1,y3,yr⟩:=HK1.out _ hbW;obtain ⟨_,_,_,_,y4,y5,y6,y7,y8⟩:=Rq.cells y3;have hlt2:=blk_lt y3;have hs0:=y1.size)|(refine step_tok (by rfl) _ _ (by rfl) w0.heap.size (.slice vp l.length vc) l ⟨k,T,b,pL s b,pC s b,f⟩ (by rfl) (yr.below ((Below.refl _ _).alloc (Nat.le_refl _) _)) w2.heap.size 1 (by rfl) (new_at _ _) hl (by rw [World.size_alloc];exact Nat.le_succ_of_le hs0) ?_;intro q cap w3 hr3 hb3 hg3;obtain ⟨z3,z1⟩:=HA.out _ _ _ _ (hbW.alloc hbW.size _) hr3 hb3 hg3;have HF:Hid (Rq w0 ((w3.setCell ⟨g,8,none⟩ (.slice (some ⟨q,0,none⟩) (l.length+1) cap)).setCell ⟨g,7,none⟩ (.int .i64 0)) g s a p n b 0 (l++[⟨k,T,b,pL s b,pC s b,f⟩])):=Rq.told z1 h2 z3 hr3;have zf:=z3.frozen 8;have zc:w3.cell? ⟨g,8,none⟩=some (.slice vp l.length vc):=blk_cell z3 rfl;have zg:=z3.frozen 7;have zd:w3.cell? ⟨g,7,none⟩=some (.int .i64 f):=blk_cell z3 rfl;clear hr3 hb3 hg3 z3 z1 y1 y3 yr))
  all_goals (
   go_wp2_with fail
   go_ret
   exact ⟨rfl,HF.out⟩)
end Go.Proofs.YtkigadnkclkopaaGreatDoor.Lx
