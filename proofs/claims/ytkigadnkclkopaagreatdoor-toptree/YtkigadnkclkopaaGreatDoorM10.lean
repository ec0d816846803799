import Derived.Deep.Cut
import Derived.Deep.CutRange
import Derived.Test.YtkigadnkclkopaaGreatDoorM09
set_option linter.unusedVariables false
set_option linter.unusedSimpArgs false
namespace Go.Proofs.YtkigadnkclkopaaGreatDoor.Lx
open Go.RowKit
theorem lbeqd (p q:Int):(false || decide (p=q))=(p == q):=by rw [Bool.eq_iff_iff];simp
theorem lisDigit_any (p:Int) (w:World) :
  Calls Tryz.prog 61 #[.int .i32 p] w fun e w'=>e=.returned (.bool (decide (48≤p) && decide (p≤57)))∧w'=w:=by
 by_cases h:48≤p
 ·have e:(decide (48≤p) && decide (p≤57))=decide (p≤57):=by rw [decide_eq_true h];rfl
  rw [e]
  clear e
  go_enter Tryz.func61,Tryz.ntmps61
  go_wp2_with fail
  go_ret
  exact ⟨rfl,rfl⟩
 ·have e:(decide (48≤p) && decide (p≤57))=false:=by rw [decide_eq_false h];rfl
  rw [e]
  clear e
  go_enter Tryz.func61,Tryz.ntmps61
  go_wp2_with fail
  go_ret
  exact ⟨rfl,rfl⟩
theorem lisControl_any (p:Int) (w:World) :
  Calls Tryz.prog 98 #[.int .i32 p] w fun e w'=>e=.returned (.bool (decide (p<32) || decide (p=127)))∧w'=w:=by
 by_cases h:p<32
 ·have e:(decide (p<32) || decide (p=127))=true:=by rw [decide_eq_true h];rfl
  rw [e]
  clear e
  go_enter Tryz.func98,Tryz.ntmps98
  go_wp2_with fail
  go_ret
  exact ⟨rfl,rfl⟩
 ·have e:(decide (p<32) || decide (p=127))=(p == 127):=by rw [decide_eq_false h];exact lbeqd _ _
  rw [e]
  clear e
  go_enter Tryz.func98,Tryz.ntmps98
  go_wp2_with fail
  go_ret
  exact ⟨rfl,rfl⟩
theorem lendsLine_any (p:Int) (w:World) :
  Calls Tryz.prog 64 #[.int .i32 p] w fun e w'=>e=.returned (.bool (decide (p=10) || decide (p=-1)))∧w'=w:=by
 by_cases h:p=10
 ·subst h
  go_enter Tryz.func64,Tryz.ntmps64
  go_wp2_with fail
  go_ret
  exact ⟨rfl,rfl⟩
 ·have e:(decide (p=10) || decide (p=-1))=(p == -1):=by rw [decide_eq_false h];exact lbeqd _ _
  have h1:(p == 10)=false:=by simpa using h
  rw [e]
  clear e h
  go_enter Tryz.func64,Tryz.ntmps64
  go_wp2_with fail
  go_ret
  exact ⟨rfl,rfl⟩
theorem lisBlank_any (p:Int) (w:World) (h0:0≤p) :
  Calls Tryz.prog 65 #[.int .i32 p] w fun e w'=>e=.returned (.bool (ptBl p))∧Below w.heap.size w w':=by
 have HF:Hid (Calls Tryz.prog 84 #[.string ⟨#[32,9,13]⟩,.int .i32 p] w fun e w'=>e=.returned (.bool (ptBl p))∧Below w.heap.size w w'):=contains_any p w h0
 generalize ptBl p=r at *
 go_enter Tryz.func65,Tryz.ntmps65
 go_wp2_with (go_at_call 84;refine HF.out.mono ?_;rintro e w1 ⟨rfl,hb⟩)
 go_ret
 exact ⟨rfl,hb⟩
theorem xgd_dp (s:ByteArray) (y:Nat) (h:gd s y=false):dp s y=65533:=by unfold dp;rw [gd_not s y h]
theorem xpr_bad:pr' 65533=false:=by decide
theorem xlt_bad:lt' 65533=false:=by decide
theorem x_part (s:ByteArray) (y:Nat):pr' (dp s y)=(gd s y && pr' (dp s y)):=by
 cases e:gd s y with
 |true=>rfl
 |false=>rw [xgd_dp s y e];exact xpr_bad
theorem x_letter (s:ByteArray) (y:Nat):lt' (dp s y)=(gd s y && lt' (dp s y)):=by
 cases e:gd s y with
 |true=>rfl
 |false=>rw [xgd_dp s y e];exact xlt_bad
theorem x_digit (s:ByteArray) (y:Nat):(decide ((48:Int)≤dp s y) && decide ((dp s y:Int)≤57))=tkDg (by8 s y):=by
 unfold tkDg
 rw [Bool.eq_iff_iff]
 simp only [Bool.and_eq_true,decide_eq_true_eq]
 constructor
 ·rintro ⟨h1,h2⟩
  have:=dp_asc s y (by omega)
  omega
 ·rintro ⟨h1,h2⟩
  have:=(chr_asc s y (by omega)).2.1
  omega
theorem x_is (s:ByteArray) (y c:Nat) (hc:c<128):(dp s y:Int)=(c:Int)↔by8 s y=c:=by
 rw [Int.natCast_inj];exact dp_eq s y c hc
theorem x_ctl (s:ByteArray) (y:Nat):(decide ((dp s y:Int)<32) || decide ((dp s y:Int)=127))=tkCtl s y:=by
 unfold tkCtl
 cases e:gd s y with
 |true=>
  rw [Bool.true_and,Bool.eq_iff_iff]
  simp only [Bool.or_eq_true,decide_eq_true_eq,beq_iff_eq]
  constructor <;> intro _ <;> omega
 |false=>rw [xgd_dp s y e];rfl
theorem x_bl (s:ByteArray) (y:Nat):ptBl (dp s y)=tkBl (by8 s y):=by
 unfold ptBl tkBl
 rw [Bool.eq_iff_iff]
 simp only [Bool.or_eq_true,decide_eq_true_eq,beq_iff_eq]
 have e1:=x_is s y 32 (by decide)
 have e2:=x_is s y 9 (by decide)
 have e3:=x_is s y 13 (by decide)
 constructor
 ·rintro (h|h|h)
  ·exact .inl (.inl (e1.1 h))
  ·exact .inl (.inr (e2.1 h))
  ·exact .inr (e3.1 h)
 ·rintro ((h|h)|h)
  ·exact .inl (e1.2 h)
  ·exact .inr (.inl (e2.2 h))
  ·exact .inr (.inr (e3.2 h))
set_option maxRecDepth 100000 in
theorem lword_any {S:Nat→Prop}{W:World}{g:Nat}{cl:Bool}{e x y z:Int}{k:Nat}{b L C f:Int}{vt vo vs:Value}(h:LxB W g cl e x y z k b L C f vt vo vs) {t:ByteArray}(hr:BwS S W vt t) (hT:WTab W) :
  Calls Tryz.prog 60 #[.pointer (some ⟨g,0,none⟩)] W fun e w'=>e=.returned (.int .u8 (if ky t=true then 2 else 1))∧w'=W:=by
 have c10:W.cell? ⟨g,10,none⟩=some vt:=blk_cell h rfl
 have hcv:=conv_row hr
 have HI:Hid (Calls Tryz.prog 102 #[.string t] W fun e w'=>e=.returned (.bool (ky t))∧w'=W):=isKey_any t W hT
 obtain ⟨p,cap,rfl,_⟩:=hr.shape
 clear h hT hr
 generalize ky t=r at *
 cases r
 ·go_enter Tryz.func60,Tryz.ntmps60
  go_wp2_with (go_at_call 102;refine HI.out.mono ?_;rintro e w1 ⟨rfl,hw⟩;replace hw:=hw.symm;subst hw)
  go_ret
  exact ⟨rfl,rfl⟩
 ·go_enter Tryz.func60,Tryz.ntmps60
  go_wp2_with (go_at_call 102;refine HI.out.mono ?_;rintro e w1 ⟨rfl,hw⟩;replace hw:=hw.symm;subst hw)
  go_ret
  exact ⟨rfl,rfl⟩
theorem lline_any {S:Nat→Prop}{W:World}{g:Nat}{cl:Bool}{e x y z:Int}{k:Nat}{b L C f:Int}{vt vo vs:Value}(h:LxB W g cl e x y z k b L C f vt vo vs) {t:ByteArray}(hr:BwS S W vt t) (u:ByteArray) (ht:t.size≤2147483647) (hu:u.size≤2147483647) (r:Bool) (hq:r=true↔t++u=twoSl) :
  Calls Tryz.prog 62 #[.pointer (some ⟨g,0,none⟩),.string u] W fun e w'=>e=.returned (.bool r)∧∃m,w'=W.drewN m:=by
 have c10:W.cell? ⟨g,10,none⟩=some vt:=blk_cell h rfl
 have hcv:=conv_row hr
 have hadd:¬(9223372036854775807<t.size+u.size):=by omega
 have e0:twoSl.toList=[47,47]:=by rw [tl_data];rfl
 have e1:((t++u).toList == [47,47])=r:=by
  rw [←e0]
  cases r with
  |true=>exact tl_true (hq.1 rfl)
  |false=>exact tl_false (fun h=>by have:=hq.2 h;cases this)
 have E1:Hid (((t++u).toList == [47,47])=r):=e1
 clear e0 e1
 obtain ⟨p,cap,rfl,_⟩:=hr.shape
 clear h hr hq
 go_enter Tryz.func62,Tryz.ntmps62
 go_wp2_with fail
 go_ret
 exact ⟨by rw [←E1.out];rfl,0,rfl⟩
theorem lsign_any {S:Nat→Prop}{W:World}{g:Nat}{cl:Bool}{e x y z:Int}{k:Nat}{b L C f:Int}{vt vo vs:Value}(h:LxB W g cl e x y z k b L C f vt vo vs) {t:ByteArray}(hr:BwS S W vt t) (hT:STab W) (u:ByteArray) (ht:t.size≤2147483647) (h0:0<t.size) (hu:u.size≤2147483647) :
  Calls Tryz.prog 63 #[.pointer (some ⟨g,0,none⟩),.string u] W fun e w'=>e=.returned (.bool (decide (t.size<(sg (t++u) 0).size)))∧Below W.heap.size W w':=by
 have c10:W.cell? ⟨g,10,none⟩=some vt:=blk_cell h rfl
 have hcv:=conv_row hr
 have hadd:¬(9223372036854775807<t.size+u.size):=by omega
 have HI:Hid (∀V,STab V→Calls Tryz.prog 93 #[.string (t++u),.int .i64 0] V fun e w'=>e=.returned (.string (sg (t++u) 0))∧Below V.heap.size V w'):=fun V hV=>by
  have:=sign_in (t++u) 0 V hV (by rw [size_app];omega)
  exact this
 obtain ⟨p,cap,rfl,_⟩:=hr.shape
 have E2:Hid (decide (t.size<(sg (t++u) 0).size)=decide (((sg (t++u) 0).size:Int)>t.size)):=by show _=_;rw [decide_eq_decide];omega

 have HK:Hid (∀V,Below W.heap.size W V→V.cell? ⟨g,10,none⟩=some (.slice p t.size cap)∧(convert 66 9 (.slice p t.size cap)).run Tryz.prog V=.ok (.string t) V∧Below W.heap.size W V):=fun V hV=>⟨blk_cell (blk_below h hV) rfl,conv_row (hr.below hV),hV⟩
 have HS:Hid (∀V,Below W.heap.size W V→STab V):=fun V hV=>hT.below hV
 clear h hr hT hcv c10
 generalize sg (t++u) 0=r at *
 go_enter Tryz.func63,Tryz.ntmps63
 go_wp2_with fail
 go_region_held3 (fun w'=>w'.cell? ⟨g,10,none⟩=some (.slice p t.size cap)∧(convert 66 9 (.slice p t.size cap)).run Tryz.prog w'=.ok (.string t) w'∧Below W.heap.size W w') (first|(exact HK.out _ (by assumption))|(exact HK.out _ (Below.refl _ _).drew)|go_keep) (first|(go_at_call 93;refine (HI.out _ (HS.out _ (by first|assumption|exact (Below.refl _ _).drew))).mono ?_;rintro e w1 ⟨rfl,hb1⟩;have hbW:=(by first|exact (Below.refl W.heap.size W).drew.trans (hb1.mono (Nat.le_refl _))|exact (by assumption:Below W.heap.size W _).trans (hb1.mono (Below.size (by assumption))):Below W.heap.size W w1)))
 all_goals (
  go_wp2_with fail
  go_ret
  exact ⟨by rw [E2.out];rfl,hbW⟩)
end Go.Proofs.YtkigadnkclkopaaGreatDoor.Lx
namespace Go.Proofs.YtkigadnkclkopaaGreatDoor.Lx
open Go.RowKit
open Go.Lib (strCells strCells_length)
theorem Lz.grow {S:Nat→Prop}{w0 W w':World}{g:Nat}{vt vo vs v':Value}{t o u:ByteArray}{l:List Tv}(h:Lz S w0 W g vt vo vs t o l) {cs:Array Value}(hg:W.heap[g]?=some (.cells cs 68 (0,0)))
  (h1:w'.ownsRow 0 5 1 v' (t.size+u.size) (strCells t++strCells u)) (h2:W.grownBy w' vt.ownBlock) (h3:v'.ownBlock=vt.ownBlock∨v'.ownBlock=some W.heap.size):w'.heap[g]?=some (.cells cs 68 (0,0))∧Lz S w0 w' g v' vo vs (t++u) o l:=by
 have hk:=Kp.of_grown h2
 refine ⟨hk.blk hg (fun e=>h.rt.ne hg (by decide) g e.symm rfl),h.kp.step hk (fun j _ e=>h.rt.2 j e.symm),h.sg,h.nw,⟨?_,?_⟩,h.ro.kp hk (fun k e1 e2=>h.ap k e1 e2.symm),?_,h.rs.kp hk ?_⟩
 ·rw [size_app,sc_app];exact h1
 ·intro k hk2
  rcases h3 with e|e
  ·exact h.rt.2 k (by rw [←e];exact hk2)
  ·rw [e] at hk2
   injection hk2 with hk2
   exact h.nw k (by have:=h.kp.size;omega)
 ·intro q hq e
  rcases h3 with e3|e3
  ·exact h.ap q hq (by rw [←e3];exact e)
  ·rw [e3] at e
   injection e with e
   rcases h.ro.1 with ⟨rfl,_⟩|⟨b,cap,cs',fr,rfl,h5,_⟩
   ·cases hq
   ·simp only [Value.ownBlock,Option.some.injEq] at hq
    have:=blk_lt h5
    omega
 ·intro k hk2 e
  rcases h.rt.1.2 with ⟨e5,_⟩|⟨b,cap,cur,e5,_,h6,_⟩
  ·rw [e5] at e;cases e
  ·rw [e5] at e
   simp only [Value.ownBlock,Option.some.injEq] at e
   exact h.rs.ne h6 (by decide) k hk2 e
theorem Tryz.lexu8:(Tryz.prog.info? 5).map (fun i=>(i.zero,i.size,i.bytes))=some (some (.int .u8 0),1,1):=by kernel_rfl
theorem ladd_any {S:Nat→Prop}{w0 W:World}{g k b:Nat}{L C:Int}{f:Nat}{t o:ByteArray}{l:List Tv}(h:Lq S w0 W g k b L C f t o l) (u:ByteArray) (ht:t.size≤100000) (hu:u.size≤100) (r:Bool) (hr:r=decide (65535<t.size+u.size)) :
  Calls Tryz.prog 58 #[.pointer (some ⟨g,0,none⟩),.string u] W fun e w'=>e=.returned (.int .i64 (if r=true then 103 else 0))∧Lq S w0 w' g k b L C f (if r=true then t else t++u) o l:=by
 obtain ⟨vt,vo,vs,h1,h2⟩:=h
 obtain ⟨p,cap,e1,hcap,_⟩:=h2.rt.shape
 have HF:Hid (Calls Tryz.prog 97 #[.pointer (some ⟨g,0,none⟩),.string u] W fun e w'=>e=.returned (.bool r)∧w'=W):=by
  rw [hr]
  exact lfull_any h1 p t.size cap e1 u (by omega) (by omega)
 have c10:W.cell? ⟨g,10,none⟩=some vt:=blk_cell h1 rfl
 have z10:=h1.frozen 10
 have hz:=size_app t u
 have HAP:Hid (∀{ops:Array Oper} {rest:List Oper} {o':Oper} {a:Act} {Q:Exit→Act→World→Prop} (hgd:o'.guard=none) (sO xO:Operand) (ho:o'.op=.call { callee:=.builtin .append,args:=#[sO,xO],argTypes:=#[66,9] }) (hs:a.eval sO=vt) (hx:a.eval xO=.string u)
   (h:∀v' w',LxB w' g false 0 0 0 0 k b L C f vt vo vs→Lz S w0 w' g v' vo vs (t++u) o l→wpList Tryz.prog ops Q rest (a.put o'.dst v') w'),wpList Tryz.prog ops Q (o' :: rest) a W):=by
  intro ops rest o' a Q hgd sO xO ho hs hx h
  obtain ⟨i0,hi,hz0,hz1,hz2⟩:=info_parts Tryz.lexu8
  refine wpList_append_string_at (P:=Tryz.prog) (w:=W) hgd sO xO 66 9 ho 0 5 i0 Tryz.underlying66 Tryz.underlying9 hi hz0 hz1 hz2 vt _ _ hs h2.rt.1 u hx (by unfold maxLen;omega) (by omega) (Nat.zero_le _) ?_
  intro v' w' k1 k2 k3
  obtain ⟨y1,y2⟩:=h2.grow h1 k1 k2 k3
  exact h v' w' y1 y2
 have HB:Hid (LxB W g false 0 0 0 0 k b L C f vt vo vs∧Lz S w0 W g vt vo vs t o l):=⟨h1,h2⟩
 have HE:Hid (∀v' w',LxB w' g false 0 0 0 0 k b L C f vt vo vs→Lz S w0 w' g v' vo vs (t++u) o l→w'.cell? ⟨g,10,none⟩=some vt∧w'.frozen? ⟨g,10,none⟩=false∧Lq S w0 (w'.setCell ⟨g,10,none⟩ v') g k b L C f (t++u) o l):=fun v' w' y1 y2=>
  ⟨blk_cell y1 rfl,y1.frozen 10,v',vo,vs,blk_set y1 10 v',y2.set y1 10 v'⟩
 subst e1
 clear h1 h2 hr hz
 cases r
 ·go_enter Tryz.func58,Tryz.ntmps58
  go_wp2_with (first|(go_at_call 97;refine HF.out.mono ?_;rintro e w1 ⟨rfl,hw⟩;replace hw:=hw.symm;subst hw)|(at_builtin;refine HAP.out (by rfl) _ _ (by rfl) (by rfl) (by rfl) ?_;intro v' w2 y1 y2;obtain ⟨x1,x2,x3⟩:=HE.out _ _ y1 y2;obtain ⟨vp',vc',hv',_⟩:=y2.rt.shape;rw [size_app] at hv';subst hv';have HX:Hid (Lq S w0 (w2.setCell ⟨g,10,none⟩ (.slice vp' (t.size+u.size) vc')) g k b L C f (t++u) o l):=x3;clear x3 y1 y2))
  go_ret
  exact ⟨rfl,HX.out⟩
 ·go_enter Tryz.func58,Tryz.ntmps58
  go_wp2_with (first|(go_at_call 97;refine HF.out.mono ?_;rintro e w1 ⟨rfl,hw⟩;replace hw:=hw.symm;subst hw))
  go_ret
  exact ⟨rfl,_,_,_,HB.out.1,HB.out.2⟩
theorem lfault_any {S:Nat→Prop}{w0 W:World}{g k b:Nat}{f:Nat}{s o:ByteArray}{l:List Tv}{p:Nat}(h:Lq S w0 W g k b (pL s b) (pC s b) f (s.extract b p) o l) (hs:s.size≤2147483647) (hbp:b≤p) (hb:bd s b) (hp:bd s p) (E A:Nat) (hA:A=if E=102 then p else b) :
  Calls Tryz.prog 55 #[.pointer (some ⟨g,0,none⟩),.int .i64 E] W fun e w'=>e=.returned (.agg #[.int .i64 A,.int .i64 (pL s A),.int .i64 (pC s A)])∧Below W.heap.size W w':=by
 obtain ⟨vt,vo,vs,h1,h2⟩:=h
 have hpl:=bd_le hp
 obtain ⟨j1,j2,j3⟩:=adv_join hb hp hbp hs
 obtain ⟨c0,c1,c2,c3,c4,c5,c6,c7,c8,c9,c10,c11,c12⟩:=h1.cells
 have hcv:=conv_row h2.rt
 obtain ⟨pp,cap,rfl,_⟩:=h2.rt.shape
 by_cases hE:E=102
 ·rw [if_pos hE] at hA
  subst hA
  have q1:((E:Int) == 102)=true:=by simp;omega
  have HAd:Hid (∀V,Calls Tryz.prog 94 #[.agg #[.int .i64 b,.int .i64 (pL s b),.int .i64 (pC s b)],.string (s.extract b A)] V fun e w'=>e=.returned (.agg #[.int .i64 A,.int .i64 (pL s A),.int .i64 (pC s A)])∧Below V.heap.size V w'):=fun V=>by
   have:=adv_lit b (pL s b) (pC s b) (s.extract b A) V (by rw [size_ext s b A hpl];omega) (p_rng s b)
   rw [j1,j2,j3] at this
   exact this
  have HK:Hid (∀V,Below W.heap.size W V→V.cell? ⟨g,6,none⟩=some (.int .i64 b)∧V.cell? ⟨g,7,none⟩=some (.int .i64 (pL s b))∧V.cell? ⟨g,8,none⟩=some (.int .i64 (pC s b))∧V.cell? ⟨g,10,none⟩=some (.slice pp (s.extract b A).size cap)∧(convert 66 9 (.slice pp (s.extract b A).size cap)).run Tryz.prog V=.ok (.string (s.extract b A)) V∧Below W.heap.size W V):=fun V hV=>⟨blk_cell (blk_below h1 hV) rfl,blk_cell (blk_below h1 hV) rfl,blk_cell (blk_below h1 hV) rfl,blk_cell (blk_below h1 hV) rfl,conv_row (h2.rt.below hV),hV⟩
  have hlt:=blk_lt h1
  clear h1 h2 j1 j2 j3 hE hb hp
  generalize s.extract b A=t at *
  obtain ⟨L2,hL2⟩:∃x,pL s A=x:=⟨_,rfl⟩
  obtain ⟨C2,hC2⟩:∃x,pC s A=x:=⟨_,rfl⟩
  obtain ⟨L,hL⟩:∃x,pL s b=x:=⟨_,rfl⟩
  obtain ⟨C,hC⟩:∃x,pC s b=x:=⟨_,rfl⟩
  rw [hL2,hC2] at HAd ⊢
  rw [hL,hC] at HAd HK
  rw [hL] at c7
  rw [hC] at c8
  clear hL2 hC2 hL hC
  obtain ⟨W1,hW1⟩:∃W1,W.alloc (.cells #[.int .i64 0,.int .i64 0,.int .i64 0] 27)=W1:=⟨_,rfl⟩
  have hB0:Below W.heap.size W W1:=by rw [←hW1];exact (Below.refl _ _).alloc (Nat.le_refl _) _
  have k0:Box3 W1 W.heap.size 0 0 0:=by rw [←hW1];exact Box3.new W 0 0 0
  go_enter Tryz.func55,Tryz.ntmps55
  go_wp2_with fail
  try rw [hW1]
  clear hW1
  go_region_held3 (fun w'=>w'.cell? ⟨g,6,none⟩=some (.int .i64 b)∧w'.cell? ⟨g,7,none⟩=some (.int .i64 L)∧w'.cell? ⟨g,8,none⟩=some (.int .i64 C)∧w'.cell? ⟨g,10,none⟩=some (.slice pp t.size cap)∧(convert 66 9 (.slice pp t.size cap)).run Tryz.prog w'=.ok (.string t) w'∧Below W.heap.size W w') (first|(exact HK.out _ (by assumption))|(exact HK.out _ hB0.drew)|(exact HK.out _ (((hbX.setCell (p:=⟨W.heap.size,0,none⟩) (Nat.le_refl _) _).setCell (p:=⟨W.heap.size,1,none⟩) (Nat.le_refl _) _).setCell (p:=⟨W.heap.size,2,none⟩) (Nat.le_refl _) _))|go_keep) (first|(go_at_call 94;refine (HAd.out _).mono ?_;rintro e w2 ⟨rfl,hb2⟩;have hbX:=hB0.drew.trans (hb2.mono hB0.size);have k2:=k0.drew.below hb2;have g0:=k2.cell0;have g1:=k2.cell1;have g2:=k2.cell2;have f0:=k2.frozen 0;have f1:=k2.frozen 1;have f2:=k2.frozen 2))
  all_goals (
   go_wp2_with fail
   have hb5:=((k2.set0 A).set1 L2).set2 C2
   have m0:=hb5.cell0
   have m1:=hb5.cell1
   have m2:=hb5.cell2
   refine bodyPost_ret (v:=.agg #[.int .i64 A,.int .i64 L2,.int .i64 C2]) (by simp [results,Tryz.f55,go_sem,m0,m1,m2]) rfl ?_
   refine ⟨rfl,?_⟩
   exact ((hbX.setCell (p:=⟨W.heap.size,0,none⟩) (Nat.le_refl _) _).setCell (p:=⟨W.heap.size,1,none⟩) (Nat.le_refl _) _).setCell (p:=⟨W.heap.size,2,none⟩) (Nat.le_refl _) _)
 ·rw [if_neg hE] at hA
  subst hA
  have q1:((E:Int) == 102)=false:=by simp;omega
  clear h2 j1 j2 j3 hE hb hp hcv
  obtain ⟨L,hL⟩:∃x,pL s A=x:=⟨_,rfl⟩
  obtain ⟨C,hC⟩:∃x,pC s A=x:=⟨_,rfl⟩
  rw [hL] at c7 ⊢
  rw [hC] at c8 ⊢
  have hlt:=blk_lt h1
  have k0:Box3 (W.alloc (.cells #[.int .i64 0,.int .i64 0,.int .i64 0] 27)) W.heap.size 0 0 0:=Box3.new W 0 0 0
  have hB0:Below W.heap.size W (W.alloc (.cells #[.int .i64 0,.int .i64 0,.int .i64 0] 27)):=(Below.refl _ _).alloc (Nat.le_refl _) _
  clear h1 hL hC
  go_enter Tryz.func55,Tryz.ntmps55
  go_wp2_with fail
  have hb5:=((k0.set0 A).set1 L).set2 C
  have m0:=hb5.cell0
  have m1:=hb5.cell1
  have m2:=hb5.cell2
  refine bodyPost_ret (v:=.agg #[.int .i64 A,.int .i64 L,.int .i64 C]) (by simp [results,Tryz.f55,go_sem,m0,m1,m2]) rfl ?_
  exact ⟨rfl,(Below.refl _ _).alloc (Nat.le_refl _) _⟩
end Go.Proofs.YtkigadnkclkopaaGreatDoor.Lx
namespace Go.Proofs.YtkigadnkclkopaaGreatDoor.Lx
open Go.RowKit
theorem lpass_any {S:Nat→Prop}{w0 W:World}{g k p:Nat}{f:Nat}{s t o:ByteArray}{l:List Tv}{q:Nat}(h:Lq S w0 W g k p (pL s p) (pC s p) f t o l) (hs:s.size≤2147483647) (hpq:p≤q) (hp:bd s p) (hq:bd s q) (hf:f≤2147483647) (P:Int) (f':Nat) (hf':f'=if P=10 then f+1 else f) :
  Calls Tryz.prog 66 #[.pointer (some ⟨g,0,none⟩),.int .i32 P,.string (s.extract p q)] W fun e w'=>e=.returned (.int .i64 0)∧Lq S w0 w' g k q (pL s q) (pC s q) f' t o l:=by
 obtain ⟨vt,vo,vs,h1,h2⟩:=h
 have hql:=bd_le hq
 obtain ⟨j1,j2,j3⟩:=adv_join hp hq hpq hs
 have HAd:Hid (∀V,Calls Tryz.prog 94 #[.agg #[.int .i64 p,.int .i64 (pL s p),.int .i64 (pC s p)],.string (s.extract p q)] V fun e w'=>e=.returned (.agg #[.int .i64 q,.int .i64 (pL s q),.int .i64 (pC s q)])∧Below V.heap.size V w'):=fun V=>by
  have:=adv_lit p (pL s p) (pC s p) (s.extract p q) V (by rw [size_ext s p q hql];omega) (p_rng s p)
  rw [j1,j2,j3] at this
  exact this
 obtain ⟨L2,hL2⟩:∃x,pL s q=x:=⟨_,rfl⟩
 obtain ⟨C2,hC2⟩:∃x,pC s q=x:=⟨_,rfl⟩
 obtain ⟨L,hL⟩:∃x,pL s p=x:=⟨_,rfl⟩
 obtain ⟨C,hC⟩:∃x,pC s p=x:=⟨_,rfl⟩
 rw [hL2,hC2] at HAd ⊢
 rw [hL,hC] at HAd h1
 have HST:Hid (∀V F,LxB V g false 0 0 0 0 k p L C F vt vo vs→Lz S w0 V g vt vo vs t o l→F=f'→(V.cell? ⟨g,6,none⟩=some (.int .i64 p)∧V.cell? ⟨g,7,none⟩=some (.int .i64 L)∧V.cell? ⟨g,8,none⟩=some (.int .i64 C))∧(∀j,V.frozen? ⟨g,j,none⟩=false)∧Lq S w0 (((V.setCell ⟨g,6,none⟩ (.int .i64 q)).setCell ⟨g,7,none⟩ (.int .i64 L2)).setCell ⟨g,8,none⟩ (.int .i64 C2)) g k q L2 C2 f' t o l):=fun V F y1 y2 e=>by
  subst e
  refine ⟨⟨blk_cell y1 rfl,blk_cell y1 rfl,blk_cell y1 rfl⟩,fun j=>y1.frozen j,vt,vo,vs,blk_set (blk_set (blk_set y1 6 _) 7 _) 8 _,?_⟩
  exact ((y2.set y1 6 _).set (blk_set y1 6 _) 7 _).set (blk_set (blk_set y1 6 _) 7 _) 8 _
 obtain ⟨c0,c1,c2,c3,c4,c5,c6,c7,c8,c9,c10,c11,c12⟩:=h1.cells
 generalize s.extract p q=u at *
 by_cases h10:P=10
 ·rw [if_pos h10] at hf'
  have q1:(P == 10)=true:=by simpa using h10
  have hw1:IntKind.i64.wrap ((f:Int)+1)=(f:Int)+1:=by rw [IntKind.wrap_i64];omega
  have z9:=h1.frozen 9
  have y1:LxB (W.setCell ⟨g,9,none⟩ (.int .i64 ((f:Int)+1))) g false 0 0 0 0 k p L C ((f:Int)+1) vt vo vs:=blk_set h1 9 _
  have y2:=h2.set h1 9 (.int .i64 ((f:Int)+1))
  have HY:Hid (LxB (W.setCell ⟨g,9,none⟩ (.int .i64 ((f:Int)+1))) g false 0 0 0 0 k p L C ((f:Int)+1) vt vo vs∧Lz S w0 (W.setCell ⟨g,9,none⟩ (.int .i64 ((f:Int)+1))) g vt vo vs t o l∧(f:Int)+1=f'):=⟨y1,y2,by omega⟩
  clear y1 y2 h1 h2 hL2 hC2 hL hC j1 j2 j3 hp hq h10 hf'
  go_enter Tryz.func66,Tryz.ntmps66
  go_wp2_with (first|(go_at_call 94;refine (HAd.out _).mono ?_;rintro e w2 ⟨rfl,hb2⟩;obtain ⟨⟨x6,x7,x8⟩,xf,x9⟩:=HST.out w2 _ (blk_below HY.out.1 hb2) (HY.out.2.1.below hb2) HY.out.2.2;have HX:Hid (Lq S w0 (((w2.setCell ⟨g,6,none⟩ (.int .i64 q)).setCell ⟨g,7,none⟩ (.int .i64 L2)).setCell ⟨g,8,none⟩ (.int .i64 C2)) g k q L2 C2 f' t o l):=x9;have f6:=xf 6;have f7:=xf 7;have f8:=xf 8;clear x9))
  go_ret
  exact ⟨rfl,HX.out⟩
 ·rw [if_neg h10] at hf'
  have q1:(P == 10)=false:=by simpa using h10
  have HY:Hid (LxB W g false 0 0 0 0 k p L C f vt vo vs∧Lz S w0 W g vt vo vs t o l∧(f:Int)=f'):=⟨h1,h2,by omega⟩
  clear h1 h2 hL2 hC2 hL hC j1 j2 j3 hp hq h10 hf'
  go_enter Tryz.func66,Tryz.ntmps66
  go_wp2_with (first|(go_at_call 94;refine (HAd.out _).mono ?_;rintro e w2 ⟨rfl,hb2⟩;obtain ⟨⟨x6,x7,x8⟩,xf,x9⟩:=HST.out w2 _ (blk_below HY.out.1 hb2) (HY.out.2.1.below hb2) HY.out.2.2;have HX:Hid (Lq S w0 (((w2.setCell ⟨g,6,none⟩ (.int .i64 q)).setCell ⟨g,7,none⟩ (.int .i64 L2)).setCell ⟨g,8,none⟩ (.int .i64 C2)) g k q L2 C2 f' t o l):=x9;have f6:=xf 6;have f7:=xf 7;have f8:=xf 8;clear x9))
  go_ret
  exact ⟨rfl,HX.out⟩
theorem OpS.u8 {S:Nat→Prop}{W:World}{v:Value}{o:ByteArray}(h:OpS S W v o):∀k,v.ownBlock=some k→∃cs f,W.heap[k]?=some (.cells cs 5 f):=by
 intro k hk
 rcases h.1 with ⟨rfl,_⟩|⟨b,cap,cs',fr,rfl,h2,h3⟩
 ·cases hk
 ·simp only [Value.ownBlock,Option.some.injEq] at hk
  subst hk
  exact ⟨_,_,h2⟩
theorem BwS.u8 {S:Nat→Prop}{W:World}{v:Value}{t:ByteArray}(h:BwS S W v t):∀k,v.ownBlock=some k→∃cs f,W.heap[k]?=some (.cells cs 5 f):=by
 intro k hk
 rcases h.1.2 with ⟨rfl,_⟩|⟨b,cap,cur,rfl,_,h2,_⟩
 ·cases hk
 ·simp only [Value.ownBlock,Option.some.injEq] at hk
  subst hk
  exact ⟨_,_,h2⟩
theorem Lz.told {S:Nat→Prop}{w0 W w':World}{g:Nat}{vt vo vs v':Value}{t o:ByteArray}{l l':List Tv}(h:Lz S w0 W g vt vo vs t o l) {cs:Array Value}(hg:W.heap[g]?=some (.cells cs 68 (0,0)))
  (h1:Rt w0.heap.size w' v' l') (h2:W.grownBy w' vs.ownBlock):w'.heap[g]?=some (.cells cs 68 (0,0))∧Lz S w0 w' g vt vo v' t o l':=by
 have hk:=Kp.of_grown h2
 refine ⟨hk.blk hg (fun e=>h.rs.ne hg (by decide) g e.symm rfl),h.kp.step hk (fun j hj e=>?_),h.sg,h.nw,h.rt.kp hk (fun k e1 e2=>?_),h.ro.kp hk (fun k e1 e2=>?_),h.ap,h1⟩
 ·have:=h.rs.own j e.symm
  omega
 ·obtain ⟨cs',f',e⟩:=h.rt.u8 k e1
  exact h.rs.ne e (by decide) k e2.symm rfl
 ·obtain ⟨cs',f',e⟩:=h.ro.u8 k e1
  exact h.rs.ne e (by decide) k e2.symm rfl
theorem Lz.drop {S:Nat→Prop}{w0 W:World}{g:Nat}{vt vo vs:Value}{t o:ByteArray}{l:List Tv}(h:Lz S w0 W g vt vo vs t o l):Lz S w0 W g (.slice none 0 0) vo vs ByteArray.empty o l:=
 ⟨h.kp,h.sg,h.nw,bws_nil S W rfl,h.ro,(fun q _ e=>by cases e),h.rs⟩
theorem lstep_tok {W:World}{ops:Array Oper}{o:Oper}{a:Act}{K:Act→World→Prop}{Q:Exit→Act→World→Prop}{E:Prop}(hgd:o.guard=none) (s x:Operand)
  (ho:o.op=.call { callee:=.builtin .append,args:=#[s,x],argTypes:=#[24,24] }) (B:Nat) (v:Value) (l:List Tv) (d:Tv) (hs:a.eval s=v) (hr:Rt B W v l)
  (g c:Nat) (hx:a.eval x=.slice (some ⟨g,0,none⟩) 1 c) (hg:W.heap[g]?=some (.cells #[.int .u8 d.k,.string d.t,.int .i64 d.a,.int .i64 d.l,.int .i64 d.c,.int .i64 d.f] 42 (0,0))) (hl:l.length≤1000000000) (hB:B≤W.heap.size)
  (h:∀q cap w',Rt B w' (.slice (some ⟨q,0,none⟩) (l.length+1) cap) (l++[d])→Below B W w'→W.grownBy w' v.ownBlock→K (a.put o.dst (.slice (some ⟨q,0,none⟩) (l.length+1) cap)) w') :
  if Region.wanted o (yielded ops a.tmps)=true then Oper.wp Tryz.prog o a W K Q else E:=by
 obtain ⟨i0,hi,hz0,hz1,hz2⟩:=info_parts Tryz.info42
 refine step_append_lies W hgd s x 24 ho B 42 i0 _ 6 56 Tryz.underlying24 hi hz0 hz1 hz2 rfl (by decide) v _ _ hs hr ⟨g,0,none⟩ 1 c (tcs [d]) hx (by rw [tcs_len];rfl) ?_ (tcs_one [d]) (by omega) (by unfold maxLen;omega) (by omega) hB _ rfl ?_
 ·intro j u hu
  refine World.news_of_block hg j u ?_
  have e:tcs [d]=[.int .u8 d.k,.string d.t,.int .i64 d.a,.int .i64 d.l,.int .i64 d.c,.int .i64 d.f]:=by simp [tcs,flat,Tv.cs]
  rw [e] at hu
  simpa using hu
 ·intro q cap w' a1 a2 a3 _
  refine h q cap w' ?_ ((Below.refl B W).grown a2 hB hr.own) a2
  unfold Rt
  rw [List.length_append,tcs_app]
  exact a1
set_option maxRecDepth 100000 in
set_option maxHeartbeats 4000000 in
theorem ltell_core {S:Nat→Prop}{w0 W:World}{g k b:Nat}{L C:Int}{f:Nat}{U o:ByteArray}{l:List Tv}(h:Lq S w0 W g k b L C f U o l) (kk:Nat) (T:ByteArray) (q:Nat) (L2 C2:Int) (hl:l.length≤1000000000)
  (hA:∀V,Calls Tryz.prog 94 #[.agg #[.int .i64 b,.int .i64 L,.int .i64 C],.string U] V fun e w'=>e=.returned (.agg #[.int .i64 q,.int .i64 L2,.int .i64 C2])∧Below V.heap.size V w')
  (hT:kk=7→∀V,Calls Tryz.prog 101 #[.string U,.string ⟨#[32,9,13]⟩] V fun e w'=>e=.returned (.string T)∧Below V.heap.size V w')
  (hC:∀V,Calls Tryz.prog 100 #[.string T] V fun e w'=>e=.returned (.string T)∧Below V.heap.size V w') (hn:kk≠7→U=T) :
  Calls Tryz.prog 59 #[.pointer (some ⟨g,0,none⟩),.int .u8 kk] W fun e w'=>e=.returned (.tuple #[])∧Lq S w0 w' g 0 q L2 C2 0 ByteArray.empty o (l++[⟨kk,T,b,L,C,f⟩]):=by
 obtain ⟨vt,vo,vs,h1,h2⟩:=h
 obtain ⟨pp,cap,e1,_⟩:=h2.rt.shape
 obtain ⟨sp,sc,e2,hs1,hs2⟩:=h2.rs.shape
 have HA:Hid (∀V,Calls Tryz.prog 94 #[.agg #[.int .i64 b,.int .i64 L,.int .i64 C],.string U] V fun e w'=>e=.returned (.agg #[.int .i64 q,.int .i64 L2,.int .i64 C2])∧Below V.heap.size V w'):=hA
 have HC:Hid (∀V,Calls Tryz.prog 100 #[.string T] V fun e w'=>e=.returned (.string T)∧Below V.heap.size V w'):=hC
 have hcv:=conv_row h2.rt
 obtain ⟨c0,c1,c2,c3,c4,c5,c6,c7,c8,c9,c10,c11,c12⟩:=h1.cells
 have HK:Hid (∀V,Below W.heap.size W V→LxB V g false 0 0 0 0 k b L C f vt vo vs∧Lz S w0 V g vt vo vs U o l):=fun V hb=>⟨blk_below h1 hb,h2.below hb⟩
 have HE:Hid (∀v' w',LxB w' g false 0 0 0 0 k b L C f vt vo v'→Lz S w0 w' g vt vo v' U o (l++[⟨kk,T,b,L,C,f⟩])→(∀j,w'.frozen? ⟨g,j,none⟩=false)∧(w'.cell? ⟨g,5,none⟩=some (.int .i64 k)∧w'.cell? ⟨g,6,none⟩=some (.int .i64 b)∧w'.cell? ⟨g,7,none⟩=some (.int .i64 L)∧w'.cell? ⟨g,8,none⟩=some (.int .i64 C)∧w'.cell? ⟨g,9,none⟩=some (.int .i64 f)∧w'.cell? ⟨g,10,none⟩=some vt)∧g<w'.heap.size ∧
   (Lq S w0 ((((((w'.setCell ⟨g,5,none⟩ (.int .i64 0)).setCell ⟨g,6,none⟩ (.int .i64 q)).setCell ⟨g,7,none⟩ (.int .i64 L2)).setCell ⟨g,8,none⟩ (.int .i64 C2)).setCell ⟨g,9,none⟩ (.int .i64 0)).setCell ⟨g,10,none⟩ (.slice none 0 0)) g 0 q L2 C2 0 ByteArray.empty o (l++[⟨kk,T,b,L,C,f⟩]))):=fun v' w' y1' y2'=>by
  refine ⟨fun j=>y1'.frozen j,⟨blk_cell y1' rfl,blk_cell y1' rfl,blk_cell y1' rfl,blk_cell y1' rfl,blk_cell y1' rfl,blk_cell y1' rfl⟩,blk_lt y1',?_⟩
  have y1:=y1'
  have y2:=y2'
  have x2:=blk_set y1 5 (.int .i64 0)
  have x3:=blk_set x2 6 (.int .i64 q)
  have x4:=blk_set x3 7 (.int .i64 L2)
  have x5:=blk_set x4 8 (.int .i64 C2)
  have x6:=blk_set x5 9 (.int .i64 0)
  exact ⟨.slice none 0 0,vo,v',blk_set x6 10 _,(((((((y2.set y1 5 _).set x2 6 _).set x3 7 _).set x4 8 _).set x5 9 _).set x6 10 _).drop)⟩
 have HG:Hid (g<W.heap.size):=blk_lt h1
 subst e1 e2
 clear h1 h2 hA hC
 go_enter Tryz.func59,Tryz.ntmps59
 go_upto_if 18 with (first|(go_at_call 94;refine (HA.out _).mono ?_;rintro e w1 ⟨rfl,hb1⟩;have hk1:Box3 (w1.alloc (.cells #[.int .i64 q,.int .i64 L2,.int .i64 C2] 27)) w1.heap.size q L2 C2:=Box3.new w1 q L2 C2;have hb0:Below W.heap.size W (w1.alloc (.cells #[.int .i64 q,.int .i64 L2,.int .i64 C2] 27)):=hb1.alloc hb1.size _))
 go_cut [4] from 6 (fun t wx=>t=.string T∧Hid (Below W.heap.size W wx∧Box3 wx w1.heap.size q L2 C2))
 case first=>
  by_cases hk:kk=7
  ·have q1:((kk:Int) == 7)=true:=by simp;omega
   have HT:Hid (∀V,Calls Tryz.prog 101 #[.string U,.string ⟨#[32,9,13]⟩] V fun e w'=>e=.returned (.string T)∧Below V.heap.size V w'):=hT hk
   clear hT hn hk
   go_wp2_with (first|(go_at_call 101;refine (HT.out _).mono ?_;rintro e w2 ⟨rfl,hb2⟩)|(go_at_call 100;refine (HC.out _).mono ?_;rintro e w3 ⟨rfl,hb3⟩))
   go_meet
   have hb5:=hb2.trans (hb3.mono hb2.size)
   exact ⟨rfl,hb0.trans (hb5.mono hb0.size),hk1.below hb5⟩
  ·have q1:((kk:Int) == 7)=false:=by simp;omega
   have HN:Hid (U=T):=hn hk
   clear hT hn hk
   go_wp2_with fail
   go_meet
   exact ⟨by rw [HN.out],hb0,hk1⟩
 case rest=>
  obtain ⟨rfl,HW⟩:=hcut
  obtain ⟨wA,eA⟩:∃wA,wA=wc:=⟨wc,rfl⟩
  subst eA
  obtain ⟨hbc,hkc⟩:=HW.out
  have HK1:Hid (∀V,Below wA.heap.size wA V→LxB V g false 0 0 0 0 k b L C f (.slice pp U.size cap) vo (.slice sp l.length sc)∧Lz S w0 V g (.slice pp U.size cap) vo (.slice sp l.length sc) U o l):=fun V hb=>HK.out V (hbc.trans (hb.mono hbc.size))
  obtain ⟨y1,y2⟩:=HK1.out _ (Below.refl _ _)
  have hlt:=blk_lt y1
  have hs0:=y2.kp.size
  have yr:=y2.rs
  obtain ⟨c0,c1,c2,c3,c4,c5,c6,c7,c8,c9,c10,c11,c12⟩:=y1.cells
  have hgw:g<w1.heap.size:=Nat.lt_of_lt_of_le HG.out hb1.size
  have hgn:g≠w1.heap.size:=by omega
  have HNE:Hid (g≠w1.heap.size):=hgn
  have HTD:Hid (∀w3 qq cc,Rt w0.heap.size w3 (.slice (some ⟨qq,0,none⟩) (l.length+1) cc) (l++[⟨kk,T,b,L,C,f⟩])→(wA.drew.alloc (.cells #[.int .u8 kk,.string T,.int .i64 b,.int .i64 L,.int .i64 C,.int .i64 f] 42)).grownBy w3 (Value.slice sp l.length sc).ownBlock→LxB w3 g false 0 0 0 0 k b L C f (.slice pp U.size cap) vo (.slice sp l.length sc)∧Lz S w0 w3 g (.slice pp U.size cap) vo (.slice (some ⟨qq,0,none⟩) (l.length+1) cc) U o (l++[⟨kk,T,b,L,C,f⟩])∧Box3 w3 w1.heap.size q L2 C2):=fun w3 qq cc hr3 hg3=>by
   have hba:Below wA.heap.size wA (wA.drew.alloc (.cells #[.int .u8 kk,.string T,.int .i64 b,.int .i64 L,.int .i64 C,.int .i64 f] 42)):=(Below.refl _ _).drew.alloc (Nat.le_refl _) _
   obtain ⟨v1,v2⟩:=HK1.out _ hba
   obtain ⟨v3,v4⟩:=v2.told v1 hr3 hg3
   have hkd:=hkc.below hba
   exact ⟨v3,v4,(Kp.of_grown hg3).blk hkd (fun e=>v2.rs.ne hkd (by decide) _ e.symm rfl)⟩
  clear HK hb1 hk1 hb0 hcv y1 y2 hT hn HC HA HG
  go_wp2_with fail
  go_cut [] from 6 (fun wx=>Hid (∃v',LxB wx g false 0 0 0 0 k b L C f (.slice pp U.size cap) vo v'∧Lz S w0 wx g (.slice pp U.size cap) vo v' U o (l++[⟨kk,T,b,L,C,f⟩])∧Box3 wx w1.heap.size q L2 C2))
  case first=>
   go_region_law (first|(refine lstep_tok (by rfl) _ _ (by rfl) w0.heap.size (.slice sp l.length sc) l ⟨kk,T,b,L,C,f⟩ (by rfl) (yr.below ((Below.refl _ _).drew.alloc (Nat.le_refl _) _)) wA.heap.size 1 (by rfl) (World.alloc_heap_new _ _) hl (by show _≤(wA.drew.alloc _).heap.size;rw [World.size_alloc];exact Nat.le_succ_of_le hs0) ?_;intro qq cc w3 hr3 hb3 hg3;obtain ⟨v3,v4,v5⟩:=HTD.out _ _ _ hr3 hg3;have f12:=v3.frozen 12;have x12:w3.cell? ⟨g,12,none⟩=some (.slice sp l.length sc):=blk_cell v3 rfl;have HV:Hid (LxB w3 g false 0 0 0 0 k b L C f (.slice pp U.size cap) vo (.slice sp l.length sc)∧Lz S w0 w3 g (.slice pp U.size cap) vo (.slice (some ⟨qq,0,none⟩) (l.length+1) cc) U o (l++[⟨kk,T,b,L,C,f⟩])∧Box3 w3 w1.heap.size q L2 C2):=⟨v3,v4,v5⟩;clear v3 v4 v5 hr3 hb3 hg3))
   all_goals (
    go_wp2_with fail
    go_meet
    obtain ⟨v3,v4,v5⟩:=HV.out
    exact ⟨_,blk_set v3 12 _,v4.set v3 12 _,(Kp.set _ g 12 _).blk v5 (fun e=>HNE.out e.symm)⟩)
  case rest=>
   obtain ⟨v',v3,v4,v5⟩:=hcut.out
   obtain ⟨xf,⟨x5,x6,x7,x8,x9,x10⟩,xlt,x13⟩:=HE.out _ _ v3 v4
   have m0:=v5.cell0
   have m1:=v5.cell1
   have m2:=v5.cell2
   have f5:=xf 5
   have f6:=xf 6
   have f7:=xf 7
   have f8:=xf 8
   have f9:=xf 9
   have f10:=xf 10
   have HX:Hid (Lq S w0 ((((((wc.setCell ⟨g,5,none⟩ (.int .i64 0)).setCell ⟨g,6,none⟩ (.int .i64 q)).setCell ⟨g,7,none⟩ (.int .i64 L2)).setCell ⟨g,8,none⟩ (.int .i64 C2)).setCell ⟨g,9,none⟩ (.int .i64 0)).setCell ⟨g,10,none⟩ (.slice none 0 0)) g 0 q L2 C2 0 ByteArray.empty o (l++[⟨kk,T,b,L,C,f⟩])):=x13
   clear x13 v3 v4 v5 hcut xf c0 c1 c2 c3 c4 c5 c6 c7 c8 c9 c10 c11 c12 HTD HK1 yr hkc hbc
   go_wp2_with fail
   go_region_law (fail)
   all_goals (
    go_wp2_with fail
    go_end0
    exact ⟨rfl,HX.out.below (Below.refl _ _).drew⟩)
theorem ltell_any {S:Nat→Prop}{w0 W:World}{g k b p:Nat}{f:Nat}{s o:ByteArray}{l:List Tv}(h:Lq S w0 W g k b (pL s b) (pC s b) f (s.extract b p) o l) (kk:Nat) (hs:s.size≤2147483647) (hbp:b≤p) (hb:bd s b) (hp:bd s p) (hl:l.length≤1000000000) (h7:kk=7→b<p∧tkBl (by8 s b)=false) :
  Calls Tryz.prog 59 #[.pointer (some ⟨g,0,none⟩),.int .u8 kk] W fun e w'=>e=.returned (.tuple #[])∧Lq S w0 w' g 0 p (pL s p) (pC s p) 0 ByteArray.empty o (l++[tv s ⟨kk,b,if kk=7 then tkTrim s p else p,f⟩]):=by
 have hpl:=bd_le hp
 obtain ⟨j1,j2,j3⟩:=adv_join hb hp hbp hs
 have hz:=size_ext s b p hpl
 have ht:=tkTrim_le s p
 have hz2:=size_ext s b (tkTrim s p) (by omega)
 have e:tv s ⟨kk,b,if kk=7 then tkTrim s p else p,f⟩=⟨kk,if kk=7 then s.extract b (tkTrim s p) else s.extract b p,b,pL s b,pC s b,f⟩:=by
  unfold tv
  by_cases e:kk=7
  ·simp only [if_pos e]
  ·simp only [if_neg e]
 rw [e]
 refine ltell_core h kk _ p (pL s p) (pC s p) hl (fun V=>?_) (fun hk V=>?_) (fun V=>?_) (fun hk=>by rw [if_neg hk])
 ·have:=adv_lit b (pL s b) (pC s b) (s.extract b p) V (by omega) (p_rng s b)
  rw [j1,j2,j3] at this
  exact this
 ·have h8:=trim_any (s.extract b p) V (by omega)
  rw [trim_is s b p (h7 hk).1 hpl (h7 hk).2] at h8
  rw [if_pos hk]
  exact h8
 ·refine clone_any _ V ?_
  split <;> omega
theorem laddLast_any {S:Nat→Prop}{w0 W:World}{g k b p q:Nat}{f:Nat}{s o:ByteArray}{l:List Tv}(h:Lq S w0 W g k b (pL s b) (pC s b) f (s.extract b p) o l) (kk:Nat) (hs:s.size≤2147483647) (hbp:b≤p) (hpq:p≤q) (hq4:q≤p+4) (hpb:p≤b+65535) (hb:bd s b) (hq:bd s q) (hl:l.length≤1000000000) (h7:kk≠7) (r:Bool) (hr:r=decide (65535<q-b)) :
  Calls Tryz.prog 99 #[.pointer (some ⟨g,0,none⟩),.string (s.extract p q),.int .u8 kk] W fun e w'=>e=.returned (.int .i64 (if r=true then 103 else 0))∧(if r=true then Lq S w0 w' g k b (pL s b) (pC s b) f (s.extract b p) o l else Lq S w0 w' g 0 q (pL s q) (pC s q) 0 ByteArray.empty o (l++[tv s ⟨kk,b,q,f⟩])):=by
 have hql:=bd_le hq
 have hz:=size_ext s b p (by omega)
 have hz2:=size_ext s p q hql
 have ej:s.extract b p++s.extract p q=s.extract b q:=by
  have h1:=size_ext s b q hql
  refine by8_ext _ _ (by rw [size_app];omega) (fun j hj=>?_)
  rw [size_app] at hj
  rw [by8_app,by8_ext' s b q j (by omega)]
  split
  ·rw [by8_ext' s b p j (by omega)]
  ·rw [by8_ext' s p q _ (by omega)];congr 1;omega
 have HA:Hid (Calls Tryz.prog 58 #[.pointer (some ⟨g,0,none⟩),.string (s.extract p q)] W fun e w'=>e=.returned (.int .i64 (if r=true then 103 else 0))∧Lq S w0 w' g k b (pL s b) (pC s b) f (if r=true then s.extract b p else s.extract b q) o l):=by
  have:=ladd_any h (s.extract p q) (by omega) (by omega) r (by rw [hr,decide_eq_decide];omega)
  rw [ej] at this
  exact this
 have HT:Hid (∀V,Lq S w0 V g k b (pL s b) (pC s b) f (s.extract b q) o l→Calls Tryz.prog 59 #[.pointer (some ⟨g,0,none⟩),.int .u8 kk] V fun e w'=>e=.returned (.tuple #[])∧Lq S w0 w' g 0 q (pL s q) (pC s q) 0 ByteArray.empty o (l++[tv s ⟨kk,b,q,f⟩])):=fun V hV=>by
  have:=ltell_any hV kk hs (by omega) hb hq hl (fun e=>absurd e h7)
  rw [if_neg h7] at this
  exact this
 clear h hr ej
 cases r
 ·simp only [Bool.false_eq_true,if_false] at HA ⊢
  go_enter Tryz.func99,Tryz.ntmps99
  go_wp2_with (first|(go_at_call 58;refine HA.out.mono ?_;rintro e w1 ⟨rfl,h1⟩)|(go_at_call 59;refine (HT.out _ h1).mono ?_;rintro e w2 ⟨rfl,h2⟩))
  go_ret
  exact ⟨rfl,h2⟩
 ·simp only [if_true] at HA ⊢
  go_enter Tryz.func99,Tryz.ntmps99
  go_wp2_with (first|(go_at_call 58;refine HA.out.mono ?_;rintro e w1 ⟨rfl,h1⟩))
  go_ret
  exact ⟨rfl,h1⟩
end Go.Proofs.YtkigadnkclkopaaGreatDoor.Lx
